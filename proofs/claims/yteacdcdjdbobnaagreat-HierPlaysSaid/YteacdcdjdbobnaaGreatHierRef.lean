/- The reference's hierarchical lock in the heap: its seats, rows of clusters, steps, nodes, those ahead, last ones, words; its port's accesses by their names. -/
import Derived.Test.YteacdcdjdbobnaaGreatHier
import Derived.Test.YteacdcdjdbobnaaGreatSeatTwo
import Derived.Test.YteacdcdjdbobnaaGreatPortSame
import Derived.BigRegion
namespace Go.Proofs.YteacdcdjdbobnaaGreat
open Go.RowKit
set_option linter.unusedVariables false
set_option maxRecDepth 100000

/-! ### its port's accesses -/
def RaPost (base r bk : Nat) (dv : Value) (s : PSta) (v : Value) (w : World) (e : Ending) (w' : World) : Prop := e = .returned v ∧ RefSt w' base r s ∧ Wrote (Foot r bk dv) w w'
section
variable {w : World} {base r bk : Nat} {so : Option Addr} {cap : Nat} {dv : Value} {s : PSta}
theorem ra_load (h : RefAt w base r bk so cap dv s) (t a : Int) (hD : s.D.length < 1000000) (hws : s.ws.length ≤ 4096) (hac : s.ac.length ≤ 64) (hbase : base ≤ w.heap.size) :
    Calls Tryz.prog 113 #[.pointer (some ⟨r, 0, none⟩), .int .i64 t, .int .i64 a] w (RaPost base r bk dv (doS s t 1 a 0 0) (.int .u32 (tellS s t 1 a)) w) := by
  have c := rdo_any h t 1 a 0 0 (by omega) (by omega) hD hws hac hbase
  clear h
  go_enter Tryz.func113, Tryz.ntmps113
  go_wp2_with (go_at_call 119; with_reducible refine c.mono ?_; intro e w2 hq; unfold RDoPost at hq; obtain ⟨rfl, hR, hW⟩ := hq)
  go_ret
  exact ⟨rfl, hR, hW⟩
theorem ra_swap (h : RefAt w base r bk so cap dv s) (t a d : Int) (d0 : 0 ≤ d) (d1 : d < 4294967296) (hD : s.D.length < 1000000) (hws : s.ws.length ≤ 4096) (hac : s.ac.length ≤ 64) (hbase : base ≤ w.heap.size) :
    Calls Tryz.prog 118 #[.pointer (some ⟨r, 0, none⟩), .int .i64 t, .int .i64 a, .int .u32 d] w (RaPost base r bk dv (doS s t 3 a 0 d) (.int .u32 (tellS s t 3 a)) w) := by
  have c := rdo_any h t 3 a 0 d d0 d1 hD hws hac hbase
  clear h
  go_enter Tryz.func118, Tryz.ntmps118
  go_wp2_with (go_at_call 119; with_reducible refine c.mono ?_; intro e w2 hq; unfold RDoPost at hq; obtain ⟨rfl, hR, hW⟩ := hq)
  go_ret
  exact ⟨rfl, hR, hW⟩
theorem ra_store (h : RefAt w base r bk so cap dv s) (t a v : Int) (d0 : 0 ≤ v) (d1 : v < 4294967296) (hD : s.D.length < 1000000) (hws : s.ws.length ≤ 4096) (hac : s.ac.length ≤ 64) (hbase : base ≤ w.heap.size) :
    Calls Tryz.prog 117 #[.pointer (some ⟨r, 0, none⟩), .int .i64 t, .int .i64 a, .int .u32 v] w (RaPost base r bk dv (doS s t 2 a 0 v) (.tuple #[]) w) := by
  have c := rdo_any h t 2 a 0 v d0 d1 hD hws hac hbase
  clear h
  go_enter Tryz.func117, Tryz.ntmps117
  go_wp2_with (go_at_call 119; with_reducible refine c.mono ?_; intro e w2 hq; unfold RDoPost at hq; obtain ⟨rfl, hR, hW⟩ := hq)
  go_end0
  exact ⟨rfl, hR, hW⟩
theorem did_cas (s : PSta) (t a old : Int) : (didS s t 4 a old == 1) = casT s t a old := by
  unfold didS okS casT
  rw [show decide ((1 : Int) ≤ 4 ∧ (4 : Int) ≤ 5) = true by decide, Bool.and_true]
  cases okT s t a
  · rfl
  · rw [if_pos rfl, Bool.true_and]
    unfold didI
    cases casB s.ws a old
    · rw [if_neg (fun q => absurd q.2 (by decide))]; rfl
    · rw [if_pos ⟨rfl, rfl⟩]; rfl
theorem ra_cas (h : RefAt w base r bk so cap dv s) (t a old v : Int) (d0 : 0 ≤ v) (d1 : v < 4294967296) (hD : s.D.length < 1000000) (hws : s.ws.length ≤ 4096) (hac : s.ac.length ≤ 64) (hbase : base ≤ w.heap.size) :
    Calls Tryz.prog 115 #[.pointer (some ⟨r, 0, none⟩), .int .i64 t, .int .i64 a, .int .u32 old, .int .u32 v] w (RaPost base r bk dv (doS s t 4 a old v) (.bool (casT s t a old)) w) := by
  have c := rdo_any h t 4 a old v d0 d1 hD hws hac hbase
  have e := did_cas s t a old
  generalize didS s t 4 a old = x at *
  clear h
  go_enter Tryz.func115, Tryz.ntmps115
  go_wp2_with (go_at_call 119; with_reducible refine c.mono ?_; intro e w2 hq; unfold RDoPost at hq; obtain ⟨rfl, hR, hW⟩ := hq)
  go_ret
  exact ⟨by first | rfl | rw [e], hR, hW⟩
end

/-! ### rows -/
def rowA (n : Nat) (g : Nat → Value) : Array Value := ((List.range n).map g).toArray
theorem rowA_at {n : Nat} (g : Nat → Value) {k : Nat} (hk : k < n) : (rowA n g)[k]? = some (g k) := by
  unfold rowA
  rw [List.getElem?_toArray, List.getElem?_map, List.getElem?_range hk]
  rfl
theorem rowA_set (n : Nat) (g : Nat → Value) (k : Nat) (v : Value) : (rowA n g).setIfInBounds k v = rowA n (upd g k v) := by
  unfold rowA
  rw [List.setIfInBounds_toArray]
  congr 1
  apply List.ext_getElem?
  intro m
  rw [List.getElem?_set, List.getElem?_map, List.getElem?_map]
  by_cases hm : m < n
  · rw [List.getElem?_range hm]
    by_cases e : k = m
    · subst e
      rw [if_pos rfl, if_pos (by simpa using hm)]
      show _ = some (upd g k v k)
      rw [upd_same]
    · rw [if_neg e]
      show some (g m) = some (upd g k v m)
      rw [upd_other _ _ (fun x => e x.symm)]
  · have e0 : (List.range n)[m]? = none := List.getElem?_eq_none (by simp; omega)
    rw [e0]
    by_cases e : k = m
    · subst e; rw [if_pos rfl, if_neg (by simpa using hm)]; rfl
    · rw [if_neg e]; rfl
theorem made_row (x : Value) (n : Nat) : madeCells #[x] (n * 1) = rowA n (fun _ => x) := by
  apply Array.ext'
  apply List.ext_getElem?
  intro m
  unfold madeCells rowA
  rw [Nat.mul_one]
  by_cases hm : m < n
  · rw [Array.toList_map, List.getElem?_map, Array.toList_range, List.getElem?_range hm, List.getElem?_map, List.getElem?_range hm]
    simp [Nat.mod_one]
  · rw [List.getElem?_eq_none (by simp; omega), List.getElem?_eq_none (by simp; omega)]
def inV (m : Nat → Int) (k : Nat) : Value := .int .i64 (m k)
theorem inV_upd (m : Nat → Int) (k : Nat) (x : Int) : upd (inV m) k (.int .i64 x) = inV (upd m k x) := by
  funext j
  by_cases e : j = k
  · subst e; rw [upd_same]; unfold inV; rw [upd_same]
  · rw [upd_other _ _ e]; unfold inV; rw [upd_other _ _ e]

/-- the kind of a row's numbers, and their type -/
def kd (i : Nat) : IntKind := if i = 5 then .u32 else .i64
def ty (i : Nat) : TypeId := if i = 5 then 84 else 3
/-- a row of numbers, whatever lies behind its end -/
def RowC (w : World) (i b n : Nat) (g : Nat → Int) : Prop := ∃ cs : Array Value, w.heap[b]? = some (.cells cs (ty i) (0, 0)) ∧ ∀ k, k < n → cs[k]? = some (.int (kd i) (g k))
namespace RowC
variable {w w' : World} {i b n : Nat} {g : Nat → Int}
theorem lt (h : RowC w i b n g) : b < w.heap.size := by obtain ⟨cs, h1, _⟩ := h; exact blk_lt h1
theorem wrote {S : Nat → Prop} (h : RowC w i b n g) (k : Wrote S w w') (hb : ¬ S b) : RowC w' i b n g := by obtain ⟨cs, h1, h2⟩ := h; exact ⟨cs, (k.block _ (blk_lt h1) hb).trans h1, h2⟩
theorem cell (h : RowC w i b n g) {k : Nat} (hk : k < n) : w.cell? ⟨b, k, none⟩ = some (.int (kd i) (g k)) := by obtain ⟨cs, h1, h2⟩ := h; rw [blk_cell h1, h2 k hk]
theorem frz (h : RowC w i b n g) (k : Nat) : w.frozen? ⟨b, k, none⟩ = false := by obtain ⟨cs, h1, _⟩ := h; exact blk_frozen h1 k
theorem set (h : RowC w i b n g) (k : Nat) (x : Int) : RowC (w.setCell ⟨b, k, none⟩ (.int (kd i) x)) i b n (upd g k x) := by
  obtain ⟨cs, h1, h2⟩ := h
  refine ⟨_, blk_setCell h1 k _, fun j hj => ?_⟩
  rw [Array.getElem?_setIfInBounds]
  have := h2 j hj
  have hjs : j < cs.size := (Array.getElem?_eq_some_iff.1 this).1
  by_cases e : k = j
  · subst e; rw [if_pos rfl, if_pos hjs, upd_same]
  · rw [if_neg e, this, upd_other _ _ (fun q => e q.symm)]
end RowC

/-! ### the lock -/
/-- where it lies: its struct, its seats, its rows (clusters, steps, nodes, those ahead, last ones, words) and the room of two that grew; its words' address; its port's block; where its port's memory begins -/
structure Mp where
  r : Nat
  sr : Nat
  hv : Value
  dv : Value
  rw : Nat → Nat
  cc : Nat
  nc : Nat
  a : Int
  pr : Nat
  base : Nat
structure MlRaw (w : World) (M : Mp) (s : SS) (v : Nat → Nat → Int) : Prop where
  obj : w.heap[M.r]? = some (.cells #[.pointer (some ⟨M.sr, 0, none⟩), .int .i64 M.a, .slice (some ⟨M.rw 0, 0, none⟩) s.n M.cc, .slice (some ⟨M.rw 1, 0, none⟩) s.n s.n, .slice (some ⟨M.rw 2, 0, none⟩) s.n M.nc, .slice (some ⟨M.rw 3, 0, none⟩) s.n s.n, .slice (some ⟨M.rw 4, 0, none⟩) s.n s.n, .slice (some ⟨M.rw 5, 0, none⟩) s.n s.n] 45 (0, 0))
  seat : RsAt w M.sr M.hv M.dv s
  rows : ∀ i, i < 6 → RowC w i (M.rw i) s.n (v i)
  ne : ∀ i, i < 6 → M.r ≠ M.rw i ∧ ∀ j, j < 6 → i ≠ j → M.rw i ≠ M.rw j
  off : ∀ k, SF M.sr M.hv M.dv k → k ≠ M.r ∧ ∀ i, i < 6 → k ≠ M.rw i
  low : M.r < M.base ∧ (∀ i, i < 6 → M.rw i < M.base) ∧ ∀ k, SF M.sr M.hv M.dv k → k < M.base
/-- the blocks that a call of it may turn -/
def MF (M : Mp) (k : Nat) : Prop := (∃ i, i < 6 ∧ k = M.rw i) ∨ SF M.sr M.hv M.dv k
theorem mf_sf {M : Mp} {k : Nat} (h : SF M.sr M.hv M.dv k) : MF M k := .inr h
namespace MlRaw
variable {w w' : World} {M : Mp} {s s' : SS} {v : Nat → Nat → Int}
theorem wrote {S : Nat → Prop} (h : MlRaw w M s v) (k : Wrote S w w') (h1 : ¬ S M.r) (h2 : ∀ j, MF M j → ¬ S j) : MlRaw w' M s v :=
  ⟨(k.block _ (blk_lt h.obj) h1).trans h.obj, h.seat.wrote k fun j hj => h2 j (mf_sf hj), fun i hi => (h.rows i hi).wrote k (h2 _ (.inl ⟨i, hi, rfl⟩)), h.ne, h.off, h.low⟩
theorem after (h : MlRaw w M s v) (k : Wrote Nil w w') : MlRaw w' M s v := h.wrote k id fun _ _ => id
theorem low2 (h : MlRaw w M s v) {k : Nat} (hk : MF M k) : k < M.base := by
  have hl := h.low
  rcases hk with ⟨i, hi, rfl⟩ | hk
  · exact hl.2.1 i hi
  · exact hl.2.2 k hk
/-- what writes behind its port's memory's beginning -/
theorem port {S : Nat → Prop} (h : MlRaw w M s v) (k : Wrote S w w') (hS : ∀ b, S b → M.base ≤ b) : MlRaw w' M s v :=
  h.wrote k (fun e => by have := hS _ e; have := h.low.1; omega) fun j hj e => by have := hS _ e; have := h.low2 hj; omega
theorem seats (h : MlRaw w M s v) (hS : RsAt w' M.sr M.hv M.dv s') (hn : s'.n = s.n) (k : Wrote (SF M.sr M.hv M.dv) w w') : MlRaw w' M s' v := by
  refine ⟨?_, hS, fun i hi => ?_, h.ne, h.off, h.low⟩
  · rw [hn]; exact (k.block _ (blk_lt h.obj) fun e => (h.off _ e).1 rfl).trans h.obj
  · rw [hn]; exact (h.rows i hi).wrote k fun e => (h.off _ e).2 i hi rfl
theorem cell0 (h : MlRaw w M s v) : w.cell? ⟨M.r, 0, none⟩ = some (.pointer (some ⟨M.sr, 0, none⟩)) := by rw [blk_cell h.obj]; rfl
theorem cell1 (h : MlRaw w M s v) : w.cell? ⟨M.r, 1, none⟩ = some (.int .i64 M.a) := by rw [blk_cell h.obj]; rfl
theorem cell2 (h : MlRaw w M s v) : w.cell? ⟨M.r, 2, none⟩ = some (.slice (some ⟨M.rw 0, 0, none⟩) s.n M.cc) := by rw [blk_cell h.obj]; rfl
theorem cell3 (h : MlRaw w M s v) : w.cell? ⟨M.r, 3, none⟩ = some (.slice (some ⟨M.rw 1, 0, none⟩) s.n s.n) := by rw [blk_cell h.obj]; rfl
theorem cell4 (h : MlRaw w M s v) : w.cell? ⟨M.r, 4, none⟩ = some (.slice (some ⟨M.rw 2, 0, none⟩) s.n M.nc) := by rw [blk_cell h.obj]; rfl
theorem cell5 (h : MlRaw w M s v) : w.cell? ⟨M.r, 5, none⟩ = some (.slice (some ⟨M.rw 3, 0, none⟩) s.n s.n) := by rw [blk_cell h.obj]; rfl
theorem cell6 (h : MlRaw w M s v) : w.cell? ⟨M.r, 6, none⟩ = some (.slice (some ⟨M.rw 4, 0, none⟩) s.n s.n) := by rw [blk_cell h.obj]; rfl
theorem cell7 (h : MlRaw w M s v) : w.cell? ⟨M.r, 7, none⟩ = some (.slice (some ⟨M.rw 5, 0, none⟩) s.n s.n) := by rw [blk_cell h.obj]; rfl
/-- all that a walk reads of it -/
structure Cells (w : World) (M : Mp) (n k : Nat) (p0 p1 p2 p3 p4 p5 : Int) : Prop where
  c0 : w.cell? ⟨M.r, 0, none⟩ = some (.pointer (some ⟨M.sr, 0, none⟩))
  c1 : w.cell? ⟨M.r, 1, none⟩ = some (.int .i64 M.a)
  c2 : w.cell? ⟨M.r, 2, none⟩ = some (.slice (some ⟨M.rw 0, 0, none⟩) n M.cc)
  c3 : w.cell? ⟨M.r, 3, none⟩ = some (.slice (some ⟨M.rw 1, 0, none⟩) n n)
  c4 : w.cell? ⟨M.r, 4, none⟩ = some (.slice (some ⟨M.rw 2, 0, none⟩) n M.nc)
  c5 : w.cell? ⟨M.r, 5, none⟩ = some (.slice (some ⟨M.rw 3, 0, none⟩) n n)
  c6 : w.cell? ⟨M.r, 6, none⟩ = some (.slice (some ⟨M.rw 4, 0, none⟩) n n)
  c7 : w.cell? ⟨M.r, 7, none⟩ = some (.slice (some ⟨M.rw 5, 0, none⟩) n n)
  r0 : w.cell? ⟨M.rw 0, k, none⟩ = some (.int .i64 p0)
  r1 : w.cell? ⟨M.rw 1, k, none⟩ = some (.int .i64 p1)
  r2 : w.cell? ⟨M.rw 2, k, none⟩ = some (.int .i64 p2)
  r3 : w.cell? ⟨M.rw 3, k, none⟩ = some (.int .i64 p3)
  r4 : w.cell? ⟨M.rw 4, k, none⟩ = some (.int .i64 p4)
  r5 : w.cell? ⟨M.rw 5, k, none⟩ = some (.int .u32 p5)
  z0 : w.frozen? ⟨M.rw 0, k, none⟩ = false
  z1 : w.frozen? ⟨M.rw 1, k, none⟩ = false
  z2 : w.frozen? ⟨M.rw 2, k, none⟩ = false
  z3 : w.frozen? ⟨M.rw 3, k, none⟩ = false
  z4 : w.frozen? ⟨M.rw 4, k, none⟩ = false
  z5 : w.frozen? ⟨M.rw 5, k, none⟩ = false
theorem cells (h : MlRaw w M s v) {k : Nat} (hk : k < s.n) : Cells w M s.n k (v 0 k) (v 1 k) (v 2 k) (v 3 k) (v 4 k) (v 5 k) :=
  ⟨h.cell0, h.cell1, h.cell2, h.cell3, h.cell4, h.cell5, h.cell6, h.cell7, (h.rows 0 (by decide)).cell hk, (h.rows 1 (by decide)).cell hk, (h.rows 2 (by decide)).cell hk, (h.rows 3 (by decide)).cell hk, (h.rows 4 (by decide)).cell hk, (h.rows 5 (by decide)).cell hk, (h.rows 0 (by decide)).frz k, (h.rows 1 (by decide)).frz k, (h.rows 2 (by decide)).frz k, (h.rows 3 (by decide)).frz k, (h.rows 4 (by decide)).frz k, (h.rows 5 (by decide)).frz k⟩
theorem set (h : MlRaw w M s v) (i : Nat) (hi : i < 6) (k : Nat) (x : Int) : MlRaw (w.setCell ⟨M.rw i, k, none⟩ (.int (kd i) x)) M s (upd v i (upd (v i) k x)) := by
  have hW : Wrote (One (M.rw i)) w (w.setCell ⟨M.rw i, k, none⟩ (.int (kd i) x)) := (Wrote.refl _ w).setCell _ _ fun _ => rfl
  refine ⟨(hW.block _ (blk_lt h.obj) (h.ne i hi).1).trans h.obj, h.seat.wrote hW fun j hj e => (h.off j hj).2 i hi e, fun j hj => ?_, h.ne, h.off, h.low⟩
  by_cases e : j = i
  · subst e; rw [upd_same]; exact (h.rows j hj).set k x
  · rw [upd_other _ _ e]; exact (h.rows j hj).wrote hW fun q => (h.ne j hj).2 i hi e q
theorem lt (h : MlRaw w M s v) {k : Nat} (hk : MF M k) : k < w.heap.size := by
  rcases hk with ⟨i, hi, rfl⟩ | hk
  · exact (h.rows i hi).lt
  · exact SrAt.lt h.seat hk
end MlRaw

/-! ### a result that is a struct -/
def ridC (d : Dd) : Array Value := #[.int .i64 d.ev, .int .i64 (b2i d.enq), .int .i64 (b2i d.arr), .int .i64 (b2i d.lead)]
theorem ridC_i64 (d : Dd) (o : Nat) (v : Value) (h : (ridC d)[o]? = some v) : ∃ z, v = .int .i64 z := by
  unfold ridC at h
  match o, h with
  | 0, h => exact ⟨_, by simpa using h.symm⟩
  | 1, h => exact ⟨_, by simpa using h.symm⟩
  | 2, h => exact ⟨_, by simpa using h.symm⟩
  | 3, h => exact ⟨_, by simpa using h.symm⟩
  | o + 4, h => simp at h
/-- what a step did lies apart from its port -/
theorem ref_off_at {X Y : World} {base r bk C : Nat} {so : Option Addr} {cap : Nat} {dv : Value} {ps : PSta} {d : Dd} (hr : RefAt X base r bk so cap dv ps) (k : Wrote (One C) X Y) (hd : X.heap[C]? = some (.cells (ridC d) 105 (0, 0))) : RefAt Y base r bk so cap dv ps := by
  have f1 : r ≠ C := fun e => by
    have h1 := hr.obj; rw [e, hd] at h1; cases h1
  have f2 : bk ≠ C := fun e => by
    obtain ⟨cs, h1, _⟩ := hr.counts
    rw [e, hd] at h1; cases h1
  have f3 : ∀ j, dv.ownBlock = some j → j ≠ C := fun j hj e => by
    rcases hr.touched.2 with ⟨rfl, _⟩ | ⟨g, cap, cur, rfl, _, hg, _⟩
    · simp [Value.ownBlock] at hj
    · obtain rfl : g = j := by simpa [Value.ownBlock] using hj
      rw [e, hd] at hg; cases hg
  refine ⟨(k.block _ (blk_lt hr.obj) f1).trans hr.obj, ?_, hr.wblk, ownsRow_keep hr.touched fun j hj => k.block j (hr.touched.lt j hj).2 (f3 j hj), hr.tblk, hr.counts.of_block (k.block _ hr.counts.lt f2), hr.lv, hr.lm, hr.rngA, hr.rngV, hr.rngM, hr.rngW, hr.low⟩
  rcases hr.words.at with e0 | ⟨b, o, rfl, hc⟩
  · exact ⟨hr.words.len, hr.words.empty, fun b hb j hj => by omega⟩
  · by_cases e0 : ps.ws.length = 0
    · exact ⟨hr.words.len, hr.words.empty, fun b hb j hj => by omega⟩
    · refine hr.words.wrote k fun a ha e => ?_
      cases ha
      have hb : b = C := e
      subst hb
      have hc0 := hc 0 (by omega)
      rw [blk_cell hd] at hc0
      obtain ⟨z, hz⟩ := ridC_i64 d _ _ hc0
      cases hz
theorem ref_off {X Y : World} {base r C : Nat} {ps : PSta} {d : Dd} (h : RefSt X base r ps) (k : Wrote (One C) X Y) (hd : X.heap[C]? = some (.cells (ridC d) 105 (0, 0))) : RefSt Y base r ps := by
  obtain ⟨bk2, so2, cap2, dv2, hr⟩ := h
  exact ⟨bk2, so2, cap2, dv2, ref_off_at hr k hd⟩
/-- all that a step may turn -/
def MG (M : Mp) (bk : Nat) (dv : Value) (k : Nat) : Prop := MF M k ∨ Foot M.pr bk dv k
/-- the lock and its port amid a step from w on -/
structure Fp (w X : World) (M : Mp) (bk : Nat) (dv : Value) (s : SS) (v : Nat → Nat → Int) (ps : PSta) : Prop where
  raw : MlRaw X M s v
  ref : RefSt X M.base M.pr ps
  wr : Wrote (MG M bk dv) w X
  old : ∀ k, MG M bk dv k → k < w.heap.size
  bs : ∀ k, Foot M.pr bk dv k → M.base ≤ k
  bw : M.base ≤ w.heap.size
namespace Fp
variable {w X Y : World} {M : Mp} {bk : Nat} {dv : Value} {s s' : SS} {v v' : Nat → Nat → Int} {ps ps' : PSta}
theorem after (h : Fp w X M bk dv s v ps) (k : Wrote Nil X Y) : Fp w Y M bk dv s v ps := by
  obtain ⟨bk2, so2, cap2, dv2, hr⟩ := h.ref
  exact ⟨h.raw.after k, ⟨bk2, so2, cap2, dv2, hr.after k fun _ _ => id⟩, h.wr.trans k fun _ _ e => e.elim, h.old, h.bs, h.bw⟩
theorem drew (h : Fp w X M bk dv s v ps) : Fp w X.drew M bk dv s v ps := h.after ((Wrote.refl _ X).drew)
theorem port (h : Fp w X M bk dv s v ps) (hR : RefSt Y M.base M.pr ps') (k : Wrote (Foot M.pr bk dv) X Y) : Fp w Y M bk dv s v ps' :=
  ⟨h.raw.port k h.bs, hR, h.wr.trans k fun _ _ e => .inr e, h.old, h.bs, h.bw⟩
/-- what writes to blocks of the lock's own -/
theorem own (h : Fp w X M bk dv s v ps) {S : Nat → Prop} (hR : MlRaw Y M s' v') (k : Wrote S X Y) (hS : ∀ b, S b → MF M b) : Fp w Y M bk dv s' v' ps := by
  obtain ⟨bk2, so2, cap2, dv2, hr⟩ := h.ref
  exact ⟨hR, ⟨bk2, so2, cap2, dv2, hr.after k fun b hb e => by have := h.raw.low2 (hS b e); omega⟩, h.wr.trans k fun b _ e => .inl (hS b e), h.old, h.bs, h.bw⟩
theorem set (h : Fp w X M bk dv s v ps) (i : Nat) (hi : i < 6) (k : Nat) (x : Int) : Fp w (X.setCell ⟨M.rw i, k, none⟩ (.int (kd i) x)) M bk dv s (upd v i (upd (v i) k x)) ps :=
  h.own (S := One (M.rw i)) (h.raw.set i hi k x) ((Wrote.refl _ X).setCell _ _ fun _ => rfl) fun _ e => .inl ⟨i, hi, e⟩
theorem ends (h : Fp w X M bk dv s v ps) {x : Int} {e : Ending} (hn : s'.n = s.n) (k : RsPost X M.sr M.hv M.dv s' x e Y) : Fp w Y M bk dv s' v ps :=
  h.own (h.raw.seats k.2.1 hn k.2.2) k.2.2 fun _ e => mf_sf e
end Fp
/-- and two new blocks: a step's result, what it did -/
structure Fm (w X : World) (M : Mp) (bk : Nat) (dv : Value) (s : SS) (v : Nat → Nat → Int) (ps : PSta) (R C : Nat) (d : Dd) : Prop where
  fp : Fp w X M bk dv s v ps
  res : X.heap[R]? = some (.cells (ridC Dd.no) 105 (0, 0))
  did : X.heap[C]? = some (.cells (ridC d) 105 (0, 0))
  new : w.heap.size ≤ R ∧ w.heap.size ≤ C ∧ R ≠ C
namespace Fm
variable {w X Y : World} {M : Mp} {bk : Nat} {dv : Value} {s s' : SS} {v v' : Nat → Nat → Int} {ps ps' : PSta} {R C : Nat} {d : Dd}
theorem raw (h : Fm w X M bk dv s v ps R C d) : MlRaw X M s v := h.fp.raw
/-- behind what writes none of the two -/
theorem keep (h : Fm w X M bk dv s v ps R C d) {S : Nat → Prop} (hP : Fp w Y M bk dv s' v' ps') (k : Wrote S X Y) (hS : ∀ b, S b → MG M bk dv b) : Fm w Y M bk dv s' v' ps' R C d := by
  have hn := h.new
  refine ⟨hP, (k.block _ (blk_lt h.res) fun e => ?_).trans h.res, (k.block _ (blk_lt h.did) fun e => ?_).trans h.did, h.new⟩
  · have := h.fp.old R (hS _ e); omega
  · have := h.fp.old C (hS _ e); omega
theorem after (h : Fm w X M bk dv s v ps R C d) (k : Wrote Nil X Y) : Fm w Y M bk dv s v ps R C d := h.keep (h.fp.after k) k fun _ e => e.elim
theorem drew (h : Fm w X M bk dv s v ps R C d) : Fm w X.drew M bk dv s v ps R C d := h.after ((Wrote.refl _ X).drew)
theorem port (h : Fm w X M bk dv s v ps R C d) (hR : RefSt Y M.base M.pr ps') (k : Wrote (Foot M.pr bk dv) X Y) : Fm w Y M bk dv s v ps' R C d := h.keep (h.fp.port hR k) k fun _ e => .inr e
theorem set (h : Fm w X M bk dv s v ps R C d) (i : Nat) (hi : i < 6) (k : Nat) (x : Int) : Fm w (X.setCell ⟨M.rw i, k, none⟩ (.int (kd i) x)) M bk dv s (upd v i (upd (v i) k x)) ps R C d :=
  h.keep (h.fp.set i hi k x) ((Wrote.refl (One (M.rw i)) X).setCell _ _ fun _ => rfl) fun _ e => .inl (.inl ⟨i, hi, e⟩)
theorem ends (h : Fm w X M bk dv s v ps R C d) {x : Int} {e : Ending} (hn : s'.n = s.n) (k : RsPost X M.sr M.hv M.dv s' x e Y) : Fm w Y M bk dv s' v ps R C d := h.keep (h.fp.ends hn k) k.2.2 fun _ e => .inl (mf_sf e)
/-- a field of what the step did -/
theorem setD (h : Fm w X M bk dv s v ps R C d) (i : Nat) (x : Value) (d' : Dd) (hd : (ridC d).setIfInBounds i x = ridC d') : Fm w (X.setCell ⟨C, i, none⟩ x) M bk dv s v ps R C d' := by
  have k : Wrote (One C) X (X.setCell ⟨C, i, none⟩ x) := (Wrote.refl _ X).setCell _ _ fun _ => rfl
  have hn := h.new
  have hC : ∀ b, MG M bk dv b → ¬ One C b := fun b hb e => by have := h.fp.old b hb; cases e; omega
  have hbw := h.fp.bw
  have hlr := h.raw.low.1
  refine ⟨⟨h.raw.wrote k (fun e => by cases e; omega) fun j hj => hC j (.inl hj), ref_off h.fp.ref k h.did, ?_, h.fp.old, h.fp.bs, h.fp.bw⟩, (k.block _ (blk_lt h.res) fun e => hn.2.2 e).trans h.res, ?_, h.new⟩
  · exact h.fp.wr.trans k fun b hb e => by cases e; omega
  · rw [blk_setCell h.did, hd]
end Fm
end Go.Proofs.YteacdcdjdbobnaaGreat
