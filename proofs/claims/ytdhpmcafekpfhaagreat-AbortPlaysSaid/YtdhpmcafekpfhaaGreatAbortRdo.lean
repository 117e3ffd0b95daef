/- The reference's abortable lock amid a call; where its words lie. -/
import Derived.Test.YtdhpmcafekpfhaaGreatAbort
import Derived.Test.YtdhpmcafekpfhaaGreatSeatTwo
import Derived.Test.YtdhpmcafekpfhaaGreatPortSame
import Derived.BigRegion
import Derived.WalkLawsBesides
import Derived.Outline
import Derived.Deep.QuietTactic
import Derived.Deep.RegionHeld3
import Derived.BigQuiet
import Derived.BigFrame
import Derived.Handy
import Derived.OpenShut
import Derived.Lib.Walk
import Derived.WalkKit
import Derived.Lib.Hide
namespace Go.Proofs.YtdhpmcafekpfhaaGreat
open Go.RowKit
set_option linter.unusedVariables false
set_option maxRecDepth 100000

/-! ### its port's accesses -/
def RaPost (base r bk : Nat) (dv : Value) (s : PSta) (v : Value) (w : World) (e : Ending) (w' : World) : Prop := e = .returned v ∧ RefSt w' base r s ∧ Wrote (Foot r bk dv) w w'
section
variable {w : World} {base r bk : Nat} {so : Option Addr} {cap : Nat} {dv : Value} {s : PSta}
theorem ra_load (h : RefAt w base r bk so cap dv s) (t a : Int) (hD : s.D.length < 1000000) (hws : s.ws.length ≤ 4096) (hac : s.ac.length ≤ 64) (hbase : base ≤ w.heap.size) :
    Calls Tryz.prog 120 #[.pointer (some ⟨r, 0, none⟩), .int .i64 t, .int .i64 a] w (RaPost base r bk dv (doS s t 1 a 0 0) (.int .u32 (tellS s t 1 a)) w) := by
  have c := rdo_any h t 1 a 0 0 (by omega) (by omega) hD hws hac hbase
  clear h
  go_enter Tryz.func120, Tryz.ntmps120
  go_wp2_with (go_at_call 124; with_reducible refine c.mono ?_; intro e w2 hq; unfold RDoPost at hq; obtain ⟨rfl, hR, hW⟩ := hq)
  go_ret
  exact ⟨rfl, hR, hW⟩
theorem ra_swap (h : RefAt w base r bk so cap dv s) (t a d : Int) (d0 : 0 ≤ d) (d1 : d < 4294967296) (hD : s.D.length < 1000000) (hws : s.ws.length ≤ 4096) (hac : s.ac.length ≤ 64) (hbase : base ≤ w.heap.size) :
    Calls Tryz.prog 122 #[.pointer (some ⟨r, 0, none⟩), .int .i64 t, .int .i64 a, .int .u32 d] w (RaPost base r bk dv (doS s t 3 a 0 d) (.int .u32 (tellS s t 3 a)) w) := by
  have c := rdo_any h t 3 a 0 d d0 d1 hD hws hac hbase
  clear h
  go_enter Tryz.func122, Tryz.ntmps122
  go_wp2_with (go_at_call 124; with_reducible refine c.mono ?_; intro e w2 hq; unfold RDoPost at hq; obtain ⟨rfl, hR, hW⟩ := hq)
  go_ret
  exact ⟨rfl, hR, hW⟩
theorem ra_store (h : RefAt w base r bk so cap dv s) (t a v : Int) (d0 : 0 ≤ v) (d1 : v < 4294967296) (hD : s.D.length < 1000000) (hws : s.ws.length ≤ 4096) (hac : s.ac.length ≤ 64) (hbase : base ≤ w.heap.size) :
    Calls Tryz.prog 121 #[.pointer (some ⟨r, 0, none⟩), .int .i64 t, .int .i64 a, .int .u32 v] w (RaPost base r bk dv (doS s t 2 a 0 v) (.tuple #[]) w) := by
  have c := rdo_any h t 2 a 0 v d0 d1 hD hws hac hbase
  clear h
  go_enter Tryz.func121, Tryz.ntmps121
  go_wp2_with (go_at_call 124; with_reducible refine c.mono ?_; intro e w2 hq; unfold RDoPost at hq; obtain ⟨rfl, hR, hW⟩ := hq)
  go_end0
  exact ⟨rfl, hR, hW⟩
theorem did_cas (s : PSta) (t a old : Int) : (didS s t 4 a old == 1) = casT s t a old := by
  unfold didS okS casT
  rw [show decide ((1 : Int) ≤ 4 ∧ (4 : Int) ≤ 5) = true by decide, Bool.and_true]
  cases okT s t a
  · rfl
  · rw [if_pos rfl, Bool.true_and]
    unfold didI
    cases casB s.ws a old
    · rw [if_neg (fun q => absurd q.2 (by decide))]; rfl
    · rw [if_pos ⟨rfl, rfl⟩]; rfl
theorem ra_cas (h : RefAt w base r bk so cap dv s) (t a old v : Int) (d0 : 0 ≤ v) (d1 : v < 4294967296) (hD : s.D.length < 1000000) (hws : s.ws.length ≤ 4096) (hac : s.ac.length ≤ 64) (hbase : base ≤ w.heap.size) :
    Calls Tryz.prog 123 #[.pointer (some ⟨r, 0, none⟩), .int .i64 t, .int .i64 a, .int .u32 old, .int .u32 v] w (RaPost base r bk dv (doS s t 4 a old v) (.bool (casT s t a old)) w) := by
  have c := rdo_any h t 4 a old v d0 d1 hD hws hac hbase
  have e := did_cas s t a old
  generalize didS s t 4 a old = x at *
  clear h
  go_enter Tryz.func123, Tryz.ntmps123
  go_wp2_with (go_at_call 124; with_reducible refine c.mono ?_; intro e w2 hq; unfold RDoPost at hq; obtain ⟨rfl, hR, hW⟩ := hq)
  go_ret
  exact ⟨by first | rfl | rw [e], hR, hW⟩
end

/-! ### rows -/
def rowA (n : Nat) (g : Nat → Value) : Array Value := ((List.range n).map g).toArray
theorem rowA_at {n : Nat} (g : Nat → Value) {k : Nat} (hk : k < n) : (rowA n g)[k]? = some (g k) := by
  unfold rowA
  rw [List.getElem?_toArray, List.getElem?_map, List.getElem?_range hk]
  rfl
theorem rowA_set (n : Nat) (g : Nat → Value) (k : Nat) (v : Value) : (rowA n g).setIfInBounds k v = rowA n (upd g k v) := by
  unfold rowA
  rw [List.setIfInBounds_toArray]
  congr 1
  apply List.ext_getElem?
  intro m
  rw [List.getElem?_set, List.getElem?_map, List.getElem?_map]
  by_cases hm : m < n
  · rw [List.getElem?_range hm]
    by_cases e : k = m
    · subst e
      rw [if_pos rfl, if_pos (by simpa using hm)]
      show _ = some (upd g k v k)
      rw [upd_same]
    · rw [if_neg e]
      show some (g m) = some (upd g k v m)
      rw [upd_other _ _ (fun x => e x.symm)]
  · have e0 : (List.range n)[m]? = none := List.getElem?_eq_none (by simp; omega)
    rw [e0]
    by_cases e : k = m
    · subst e; rw [if_pos rfl, if_neg (by simpa using hm)]; rfl
    · rw [if_neg e]; rfl
theorem made_row (x : Value) (n : Nat) : madeCells #[x] (n * 1) = rowA n (fun _ => x) := by
  apply Array.ext'
  apply List.ext_getElem?
  intro m
  unfold madeCells rowA
  rw [Nat.mul_one]
  by_cases hm : m < n
  · rw [Array.toList_map, List.getElem?_map, Array.toList_range, List.getElem?_range hm, List.getElem?_map, List.getElem?_range hm]
    simp [Nat.mod_one]
  · rw [List.getElem?_eq_none (by simp; omega), List.getElem?_eq_none (by simp; omega)]
def inV (m : Nat → Int) (k : Nat) : Value := .int .i64 (m k)
theorem inV_upd (m : Nat → Int) (k : Nat) (x : Int) : upd (inV m) k (.int .i64 x) = inV (upd m k x) := by
  funext j
  by_cases e : j = k
  · subst e; rw [upd_same]; unfold inV; rw [upd_same]
  · rw [upd_other _ _ e]; unfold inV; rw [upd_other _ _ e]

/-- a row of numbers, whatever lies behind its end -/
def RowC (w : World) (b n : Nat) (g : Nat → Int) : Prop := ∃ cs : Array Value, w.heap[b]? = some (.cells cs 3 (0, 0)) ∧ ∀ k, k < n → cs[k]? = some (inV g k)
namespace RowC
variable {w w' : World} {b n : Nat} {g : Nat → Int}
theorem lt (h : RowC w b n g) : b < w.heap.size := by obtain ⟨cs, h1, _⟩ := h; exact blk_lt h1
theorem wrote {S : Nat → Prop} (h : RowC w b n g) (k : Wrote S w w') (hb : ¬ S b) : RowC w' b n g := by obtain ⟨cs, h1, h2⟩ := h; exact ⟨cs, (k.block _ (blk_lt h1) hb).trans h1, h2⟩
theorem cell (h : RowC w b n g) {k : Nat} (hk : k < n) : w.cell? ⟨b, k, none⟩ = some (.int .i64 (g k)) := by obtain ⟨cs, h1, h2⟩ := h; rw [blk_cell h1, h2 k hk]; rfl
theorem frz (h : RowC w b n g) (k : Nat) : w.frozen? ⟨b, k, none⟩ = false := by obtain ⟨cs, h1, _⟩ := h; exact blk_frozen h1 k
theorem set (h : RowC w b n g) (k : Nat) (x : Int) : RowC (w.setCell ⟨b, k, none⟩ (.int .i64 x)) b n (upd g k x) := by
  obtain ⟨cs, h1, h2⟩ := h
  refine ⟨_, blk_setCell h1 k _, fun j hj => ?_⟩
  rw [Array.getElem?_setIfInBounds]
  have := h2 j hj
  have hjs : j < cs.size := (Array.getElem?_eq_some_iff.1 this).1
  by_cases e : k = j
  · subst e; rw [if_pos rfl, if_pos hjs]; unfold inV; rw [upd_same]
  · rw [if_neg e, this]; unfold inV; rw [upd_other _ _ (fun q => e q.symm)]
end RowC

/-! ### the lock -/
/-- where it lies: its struct, its seats, its rows (steps, nodes, those ahead or behind, tries) and the first one's room; its words' address; its port's block; where its port's memory begins -/
structure Mp where
  r : Nat
  sr : Nat
  hv : Value
  dv : Value
  rw : Nat → Nat
  cp : Nat
  a : Int
  pr : Nat
  base : Nat
structure MlRaw (w : World) (M : Mp) (s : SS) (ea : Nat) (v : Nat → Nat → Int) : Prop where
  obj : w.heap[M.r]? = some (.cells #[.pointer (some ⟨M.sr, 0, none⟩), .int .i64 M.a, .int .i64 (ea : Nat), .slice (some ⟨M.rw 0, 0, none⟩) s.n M.cp, .slice (some ⟨M.rw 1, 0, none⟩) s.n s.n, .slice (some ⟨M.rw 2, 0, none⟩) s.n s.n, .slice (some ⟨M.rw 3, 0, none⟩) s.n s.n] 80 (0, 0))
  seat : RsAt w M.sr M.hv M.dv s
  rows : ∀ i, i < 4 → RowC w (M.rw i) s.n (v i)
  ne : ∀ i, i < 4 → M.r ≠ M.rw i ∧ ∀ j, j < 4 → i ≠ j → M.rw i ≠ M.rw j
  off : ∀ k, SF M.sr M.hv M.dv k → k ≠ M.r ∧ ∀ i, i < 4 → k ≠ M.rw i
  low : M.r < M.base ∧ (∀ i, i < 4 → M.rw i < M.base) ∧ ∀ k, SF M.sr M.hv M.dv k → k < M.base
/-- the blocks that a call of it may turn -/
def MF (M : Mp) (k : Nat) : Prop := (∃ i, i < 4 ∧ k = M.rw i) ∨ SF M.sr M.hv M.dv k
theorem mf_sf {M : Mp} {k : Nat} (h : SF M.sr M.hv M.dv k) : MF M k := .inr h
namespace MlRaw
variable {w w' : World} {M : Mp} {s s' : SS} {ea : Nat} {v : Nat → Nat → Int}
theorem wrote {S : Nat → Prop} (h : MlRaw w M s ea v) (k : Wrote S w w') (h1 : ¬ S M.r) (h2 : ∀ j, MF M j → ¬ S j) : MlRaw w' M s ea v :=
  ⟨(k.block _ (blk_lt h.obj) h1).trans h.obj, h.seat.wrote k fun j hj => h2 j (mf_sf hj), fun i hi => (h.rows i hi).wrote k (h2 _ (.inl ⟨i, hi, rfl⟩)), h.ne, h.off, h.low⟩
theorem after (h : MlRaw w M s ea v) (k : Wrote Nil w w') : MlRaw w' M s ea v := h.wrote k id fun _ _ => id
theorem low2 (h : MlRaw w M s ea v) {k : Nat} (hk : MF M k) : k < M.base := by
  have hl := h.low
  rcases hk with ⟨i, hi, rfl⟩ | hk
  · exact hl.2.1 i hi
  · exact hl.2.2 k hk
/-- what writes behind its port's memory's beginning -/
theorem port {S : Nat → Prop} (h : MlRaw w M s ea v) (k : Wrote S w w') (hS : ∀ b, S b → M.base ≤ b) : MlRaw w' M s ea v :=
  h.wrote k (fun e => by have := hS _ e; have := h.low.1; omega) fun j hj e => by have := hS _ e; have := h.low2 hj; omega
theorem seats (h : MlRaw w M s ea v) (hS : RsAt w' M.sr M.hv M.dv s') (hn : s'.n = s.n) (k : Wrote (SF M.sr M.hv M.dv) w w') : MlRaw w' M s' ea v := by
  refine ⟨?_, hS, fun i hi => ?_, h.ne, h.off, h.low⟩
  · rw [hn]; exact (k.block _ (blk_lt h.obj) fun e => (h.off _ e).1 rfl).trans h.obj
  · rw [hn]; exact (h.rows i hi).wrote k fun e => (h.off _ e).2 i hi rfl
theorem cell0 (h : MlRaw w M s ea v) : w.cell? ⟨M.r, 0, none⟩ = some (.pointer (some ⟨M.sr, 0, none⟩)) := by rw [blk_cell h.obj]; rfl
theorem cell1 (h : MlRaw w M s ea v) : w.cell? ⟨M.r, 1, none⟩ = some (.int .i64 M.a) := by rw [blk_cell h.obj]; rfl
theorem cell2 (h : MlRaw w M s ea v) : w.cell? ⟨M.r, 2, none⟩ = some (.int .i64 (ea : Nat)) := by rw [blk_cell h.obj]; rfl
theorem cell3 (h : MlRaw w M s ea v) : w.cell? ⟨M.r, 3, none⟩ = some (.slice (some ⟨M.rw 0, 0, none⟩) s.n M.cp) := by rw [blk_cell h.obj]; rfl
theorem cell4 (h : MlRaw w M s ea v) : w.cell? ⟨M.r, 4, none⟩ = some (.slice (some ⟨M.rw 1, 0, none⟩) s.n s.n) := by rw [blk_cell h.obj]; rfl
theorem cell5 (h : MlRaw w M s ea v) : w.cell? ⟨M.r, 5, none⟩ = some (.slice (some ⟨M.rw 2, 0, none⟩) s.n s.n) := by rw [blk_cell h.obj]; rfl
theorem cell6 (h : MlRaw w M s ea v) : w.cell? ⟨M.r, 6, none⟩ = some (.slice (some ⟨M.rw 3, 0, none⟩) s.n s.n) := by rw [blk_cell h.obj]; rfl
/-- all that a walk reads of it -/
structure Cells (w : World) (M : Mp) (n ea k : Nat) (p0 p1 p2 p3 : Int) : Prop where
  c0 : w.cell? ⟨M.r, 0, none⟩ = some (.pointer (some ⟨M.sr, 0, none⟩))
  c1 : w.cell? ⟨M.r, 1, none⟩ = some (.int .i64 M.a)
  c2 : w.cell? ⟨M.r, 2, none⟩ = some (.int .i64 (ea : Nat))
  c3 : w.cell? ⟨M.r, 3, none⟩ = some (.slice (some ⟨M.rw 0, 0, none⟩) n M.cp)
  c4 : w.cell? ⟨M.r, 4, none⟩ = some (.slice (some ⟨M.rw 1, 0, none⟩) n n)
  c5 : w.cell? ⟨M.r, 5, none⟩ = some (.slice (some ⟨M.rw 2, 0, none⟩) n n)
  c6 : w.cell? ⟨M.r, 6, none⟩ = some (.slice (some ⟨M.rw 3, 0, none⟩) n n)
  r0 : w.cell? ⟨M.rw 0, k, none⟩ = some (.int .i64 p0)
  r1 : w.cell? ⟨M.rw 1, k, none⟩ = some (.int .i64 p1)
  r2 : w.cell? ⟨M.rw 2, k, none⟩ = some (.int .i64 p2)
  r3 : w.cell? ⟨M.rw 3, k, none⟩ = some (.int .i64 p3)
  z0 : w.frozen? ⟨M.rw 0, k, none⟩ = false
  z1 : w.frozen? ⟨M.rw 1, k, none⟩ = false
  z2 : w.frozen? ⟨M.rw 2, k, none⟩ = false
  z3 : w.frozen? ⟨M.rw 3, k, none⟩ = false
theorem cells (h : MlRaw w M s ea v) {k : Nat} (hk : k < s.n) : Cells w M s.n ea k (v 0 k) (v 1 k) (v 2 k) (v 3 k) :=
  ⟨h.cell0, h.cell1, h.cell2, h.cell3, h.cell4, h.cell5, h.cell6, (h.rows 0 (by decide)).cell hk, (h.rows 1 (by decide)).cell hk, (h.rows 2 (by decide)).cell hk, (h.rows 3 (by decide)).cell hk, (h.rows 0 (by decide)).frz k, (h.rows 1 (by decide)).frz k, (h.rows 2 (by decide)).frz k, (h.rows 3 (by decide)).frz k⟩
theorem set (h : MlRaw w M s ea v) (i : Nat) (hi : i < 4) (k : Nat) (x : Int) : MlRaw (w.setCell ⟨M.rw i, k, none⟩ (.int .i64 x)) M s ea (upd v i (upd (v i) k x)) := by
  have hW : Wrote (One (M.rw i)) w (w.setCell ⟨M.rw i, k, none⟩ (.int .i64 x)) := (Wrote.refl _ w).setCell _ _ fun _ => rfl
  refine ⟨(hW.block _ (blk_lt h.obj) (h.ne i hi).1).trans h.obj, h.seat.wrote hW fun j hj e => (h.off j hj).2 i hi e, fun j hj => ?_, h.ne, h.off, h.low⟩
  by_cases e : j = i
  · subst e; rw [upd_same]; exact (h.rows j hj).set k x
  · rw [upd_other _ _ e]; exact (h.rows j hj).wrote hW fun q => (h.ne j hj).2 i hi e q
theorem lt (h : MlRaw w M s ea v) {k : Nat} (hk : MF M k) : k < w.heap.size := by
  rcases hk with ⟨i, hi, rfl⟩ | hk
  · exact (h.rows i hi).lt
  · exact SrAt.lt h.seat hk
end MlRaw

/-! ### a result that is a struct -/
def ridC (d : Dd) : Array Value := #[.int .i64 d.ev, .int .i64 (b2i d.enq), .int .i64 (b2i d.arr), .int .i64 (b2i d.lead)]
theorem ridC_i64 (d : Dd) (o : Nat) (v : Value) (h : (ridC d)[o]? = some v) : ∃ z, v = .int .i64 z := by
  unfold ridC at h
  match o, h with
  | 0, h => exact ⟨_, by simpa using h.symm⟩
  | 1, h => exact ⟨_, by simpa using h.symm⟩
  | 2, h => exact ⟨_, by simpa using h.symm⟩
  | 3, h => exact ⟨_, by simpa using h.symm⟩
  | o + 4, h => simp at h
/-- what a step did lies apart from its port -/
theorem ref_off_at {X Y : World} {base r bk C : Nat} {so : Option Addr} {cap : Nat} {dv : Value} {ps : PSta} {d : Dd} (hr : RefAt X base r bk so cap dv ps) (k : Wrote (One C) X Y) (hd : X.heap[C]? = some (.cells (ridC d) 109 (0, 0))) : RefAt Y base r bk so cap dv ps := by
  have f1 : r ≠ C := fun e => by
    have h1 := hr.obj; rw [e, hd] at h1; cases h1
  have f2 : bk ≠ C := fun e => by
    obtain ⟨cs, h1, _⟩ := hr.counts
    rw [e, hd] at h1; cases h1
  have f3 : ∀ j, dv.ownBlock = some j → j ≠ C := fun j hj e => by
    rcases hr.touched.2 with ⟨rfl, _⟩ | ⟨g, cap, cur, rfl, _, hg, _⟩
    · simp [Value.ownBlock] at hj
    · obtain rfl : g = j := by simpa [Value.ownBlock] using hj
      rw [e, hd] at hg; cases hg
  refine ⟨(k.block _ (blk_lt hr.obj) f1).trans hr.obj, ?_, hr.wblk, ownsRow_keep hr.touched fun j hj => k.block j (hr.touched.lt j hj).2 (f3 j hj), hr.tblk, hr.counts.of_block (k.block _ hr.counts.lt f2), hr.lv, hr.lm, hr.rngA, hr.rngV, hr.rngM, hr.rngW, hr.low⟩
  rcases hr.words.at with e0 | ⟨b, o, rfl, hc⟩
  · exact ⟨hr.words.len, hr.words.empty, fun b hb j hj => by omega⟩
  · by_cases e0 : ps.ws.length = 0
    · exact ⟨hr.words.len, hr.words.empty, fun b hb j hj => by omega⟩
    · refine hr.words.wrote k fun a ha e => ?_
      cases ha
      have hb : b = C := e
      subst hb
      have hc0 := hc 0 (by omega)
      rw [blk_cell hd] at hc0
      obtain ⟨z, hz⟩ := ridC_i64 d _ _ hc0
      cases hz
theorem ref_off {X Y : World} {base r C : Nat} {ps : PSta} {d : Dd} (h : RefSt X base r ps) (k : Wrote (One C) X Y) (hd : X.heap[C]? = some (.cells (ridC d) 109 (0, 0))) : RefSt Y base r ps := by
  obtain ⟨bk2, so2, cap2, dv2, hr⟩ := h
  exact ⟨bk2, so2, cap2, dv2, ref_off_at hr k hd⟩
/-- all that a step may turn -/
def MG (M : Mp) (bk : Nat) (dv : Value) (k : Nat) : Prop := MF M k ∨ Foot M.pr bk dv k
/-- the lock and its port amid a step from w on -/
structure Fp (w X : World) (M : Mp) (bk : Nat) (dv : Value) (s : SS) (ea : Nat) (v : Nat → Nat → Int) (ps : PSta) : Prop where
  raw : MlRaw X M s ea v
  ref : RefSt X M.base M.pr ps
  wr : Wrote (MG M bk dv) w X
  old : ∀ k, MG M bk dv k → k < w.heap.size
  bs : ∀ k, Foot M.pr bk dv k → M.base ≤ k
  bw : M.base ≤ w.heap.size
namespace Fp
variable {w X Y : World} {M : Mp} {bk : Nat} {dv : Value} {s s' : SS} {ea : Nat} {v v' : Nat → Nat → Int} {ps ps' : PSta}
theorem after (h : Fp w X M bk dv s ea v ps) (k : Wrote Nil X Y) : Fp w Y M bk dv s ea v ps := by
  obtain ⟨bk2, so2, cap2, dv2, hr⟩ := h.ref
  exact ⟨h.raw.after k, ⟨bk2, so2, cap2, dv2, hr.after k fun _ _ => id⟩, h.wr.trans k fun _ _ e => e.elim, h.old, h.bs, h.bw⟩
theorem drew (h : Fp w X M bk dv s ea v ps) : Fp w X.drew M bk dv s ea v ps := h.after ((Wrote.refl _ X).drew)
theorem port (h : Fp w X M bk dv s ea v ps) (hR : RefSt Y M.base M.pr ps') (k : Wrote (Foot M.pr bk dv) X Y) : Fp w Y M bk dv s ea v ps' :=
  ⟨h.raw.port k h.bs, hR, h.wr.trans k fun _ _ e => .inr e, h.old, h.bs, h.bw⟩
/-- what writes to blocks of the lock's own -/
theorem own (h : Fp w X M bk dv s ea v ps) {S : Nat → Prop} (hR : MlRaw Y M s' ea v') (k : Wrote S X Y) (hS : ∀ b, S b → MF M b) : Fp w Y M bk dv s' ea v' ps := by
  obtain ⟨bk2, so2, cap2, dv2, hr⟩ := h.ref
  exact ⟨hR, ⟨bk2, so2, cap2, dv2, hr.after k fun b hb e => by have := h.raw.low2 (hS b e); omega⟩, h.wr.trans k fun b _ e => .inl (hS b e), h.old, h.bs, h.bw⟩
theorem set (h : Fp w X M bk dv s ea v ps) (i : Nat) (hi : i < 4) (k : Nat) (x : Int) : Fp w (X.setCell ⟨M.rw i, k, none⟩ (.int .i64 x)) M bk dv s ea (upd v i (upd (v i) k x)) ps :=
  h.own (S := One (M.rw i)) (h.raw.set i hi k x) ((Wrote.refl _ X).setCell _ _ fun _ => rfl) fun _ e => .inl ⟨i, hi, e⟩
theorem ends (h : Fp w X M bk dv s ea v ps) {x : Int} {e : Ending} (hn : s'.n = s.n) (k : RsPost X M.sr M.hv M.dv s' x e Y) : Fp w Y M bk dv s' ea v ps :=
  h.own (h.raw.seats k.2.1 hn k.2.2) k.2.2 fun _ e => mf_sf e
end Fp
/-- and two new blocks: a step's result, what it did -/
structure Fm (w X : World) (M : Mp) (bk : Nat) (dv : Value) (s : SS) (ea : Nat) (v : Nat → Nat → Int) (ps : PSta) (R C : Nat) (d : Dd) : Prop where
  fp : Fp w X M bk dv s ea v ps
  res : X.heap[R]? = some (.cells (ridC Dd.no) 109 (0, 0))
  did : X.heap[C]? = some (.cells (ridC d) 109 (0, 0))
  new : w.heap.size ≤ R ∧ w.heap.size ≤ C ∧ R ≠ C
namespace Fm
variable {w X Y : World} {M : Mp} {bk : Nat} {dv : Value} {s s' : SS} {ea : Nat} {v v' : Nat → Nat → Int} {ps ps' : PSta} {R C : Nat} {d : Dd}
theorem raw (h : Fm w X M bk dv s ea v ps R C d) : MlRaw X M s ea v := h.fp.raw
/-- behind what writes none of the two -/
theorem keep (h : Fm w X M bk dv s ea v ps R C d) {S : Nat → Prop} (hP : Fp w Y M bk dv s' ea v' ps') (k : Wrote S X Y) (hS : ∀ b, S b → MG M bk dv b) : Fm w Y M bk dv s' ea v' ps' R C d := by
  have hn := h.new
  refine ⟨hP, (k.block _ (blk_lt h.res) fun e => ?_).trans h.res, (k.block _ (blk_lt h.did) fun e => ?_).trans h.did, h.new⟩
  · have := h.fp.old R (hS _ e); omega
  · have := h.fp.old C (hS _ e); omega
theorem after (h : Fm w X M bk dv s ea v ps R C d) (k : Wrote Nil X Y) : Fm w Y M bk dv s ea v ps R C d := h.keep (h.fp.after k) k fun _ e => e.elim
theorem drew (h : Fm w X M bk dv s ea v ps R C d) : Fm w X.drew M bk dv s ea v ps R C d := h.after ((Wrote.refl _ X).drew)
theorem port (h : Fm w X M bk dv s ea v ps R C d) (hR : RefSt Y M.base M.pr ps') (k : Wrote (Foot M.pr bk dv) X Y) : Fm w Y M bk dv s ea v ps' R C d := h.keep (h.fp.port hR k) k fun _ e => .inr e
theorem set (h : Fm w X M bk dv s ea v ps R C d) (i : Nat) (hi : i < 4) (k : Nat) (x : Int) : Fm w (X.setCell ⟨M.rw i, k, none⟩ (.int .i64 x)) M bk dv s ea (upd v i (upd (v i) k x)) ps R C d :=
  h.keep (h.fp.set i hi k x) ((Wrote.refl (One (M.rw i)) X).setCell _ _ fun _ => rfl) fun _ e => .inl (.inl ⟨i, hi, e⟩)
theorem ends (h : Fm w X M bk dv s ea v ps R C d) {x : Int} {e : Ending} (hn : s'.n = s.n) (k : RsPost X M.sr M.hv M.dv s' x e Y) : Fm w Y M bk dv s' ea v ps R C d := h.keep (h.fp.ends hn k) k.2.2 fun _ e => .inl (mf_sf e)
/-- a field of what the step did -/
theorem setD (h : Fm w X M bk dv s ea v ps R C d) (i : Nat) (x : Value) (d' : Dd) (hd : (ridC d).setIfInBounds i x = ridC d') : Fm w (X.setCell ⟨C, i, none⟩ x) M bk dv s ea v ps R C d' := by
  have k : Wrote (One C) X (X.setCell ⟨C, i, none⟩ x) := (Wrote.refl _ X).setCell _ _ fun _ => rfl
  have hn := h.new
  have hC : ∀ b, MG M bk dv b → ¬ One C b := fun b hb e => by have := h.fp.old b hb; cases e; omega
  have hbw := h.fp.bw
  have hlr := h.raw.low.1
  refine ⟨⟨h.raw.wrote k (fun e => by cases e; omega) fun j hj => hC j (.inl hj), ref_off h.fp.ref k h.did, ?_, h.fp.old, h.fp.bs, h.fp.bw⟩, (k.block _ (blk_lt h.res) fun e => hn.2.2 e).trans h.res, ?_, h.new⟩
  · exact h.fp.wr.trans k fun b hb e => by cases e; omega
  · rw [blk_setCell h.did, hd]
end Fm
end Go.Proofs.YtdhpmcafekpfhaaGreat
namespace Go.Proofs.YtdhpmcafekpfhaaGreat
open Go.RowKit Go.BigFrame
set_option linter.unusedVariables false
set_option maxRecDepth 100000

theorem i_rid : (Tryz.prog.info? 109).map (·.size) = some 4 := by kernel_rfl
/-- a row's four numbers of context k -/
def vk (v : Nat → Nat → Int) (k : Nat) (a b c d : Int) : Nat → Nat → Int := fun i j => if j = k then (match i with | 0 => a | 1 => b | 2 => c | 3 => d | _ => v i j) else v i j
theorem vk_self (v : Nat → Nat → Int) (k : Nat) : vk v k (v 0 k) (v 1 k) (v 2 k) (v 3 k) = v := by
  funext i j
  unfold vk
  split
  · rename_i e; subst e; split <;> rfl
  · rfl
theorem vk_k (v : Nat → Nat → Int) (k : Nat) (a b c d : Int) : vk v k a b c d 0 k = a ∧ vk v k a b c d 1 k = b ∧ vk v k a b c d 2 k = c ∧ vk v k a b c d 3 k = d := by
  unfold vk; rw [if_pos rfl, if_pos rfl, if_pos rfl, if_pos rfl]; exact ⟨rfl, rfl, rfl, rfl⟩
theorem vk_set (v : Nat → Nat → Int) (k : Nat) (a b c d x : Int) :
    upd (vk v k a b c d) 0 (upd (vk v k a b c d 0) k x) = vk v k x b c d ∧ upd (vk v k a b c d) 1 (upd (vk v k a b c d 1) k x) = vk v k a x c d ∧
    upd (vk v k a b c d) 2 (upd (vk v k a b c d 2) k x) = vk v k a b x d ∧ upd (vk v k a b c d) 3 (upd (vk v k a b c d 3) k x) = vk v k a b c x := by
  refine ⟨?_, ?_, ?_, ?_⟩
  all_goals
    funext i j
    unfold vk upd
    by_cases hj : j = k
    · subst hj
      match i with
      | 0 => simp
      | 1 => simp
      | 2 => simp
      | 3 => simp
      | n + 4 => simp
    · match i with
      | 0 => simp [hj]
      | 1 => simp [hj]
      | 2 => simp [hj]
      | 3 => simp [hj]
      | n + 4 => simp [hj]
/-- a lock's rows -/
def fv (f : FL) : Nat → Nat → Int := fun i j => match i with | 0 => f.pc j | 1 => f.nd j | 2 => f.oth j | 3 => f.tr j | _ => 0
/-- what bounds a step's world -/
structure MsIn (w : World) (M : Mp) (bk : Nat) (so : Option Addr) (cap : Nat) (dv : Value) (s : SS) (ea : Nat) (v : Nat → Nat → Int) (ps : PSta) : Prop where
  raw : MlRaw w M s ea v
  ref : RefAt w M.base M.pr bk so cap dv ps
  n1 : 1 ≤ s.n
  n2 : s.n ≤ 64
  hD : ps.D.length < 1000000
  hws : ps.ws.length ≤ 4096
  hac : ps.ac.length ≤ 64
  hb : M.base ≤ w.heap.size
  ha : 0 ≤ M.a ∧ M.a ≤ 4096
  he : 1 ≤ ea ∧ ea ≤ 8
theorem foot_lt {w : World} {base r bk : Nat} {so : Option Addr} {cap : Nat} {dv : Value} {ps : PSta} (h : RefAt w base r bk so cap dv ps) {k : Nat} (hk : Foot r bk dv k) : base ≤ k ∧ k < w.heap.size := by
  rcases hk with rfl | rfl | hk
  · exact ⟨h.low.1, blk_lt h.obj⟩
  · exact ⟨h.low.2.1, h.counts.lt⟩
  · exact ⟨(h.touched.lt k hk).1, (h.touched.lt k hk).2⟩
section
variable {w X Y : World} {M : Mp} {bk : Nat} {so : Option Addr} {cap : Nat} {dv : Value} {s : SS} {ea : Nat} {v : Nat → Nat → Int} {ps : PSta} {R C : Nat} {d : Dd}
theorem MsIn.after (h : MsIn w M bk so cap dv s ea v ps) (k : Wrote Nil w X) : MsIn X M bk so cap dv s ea v ps :=
  ⟨h.raw.after k, h.ref.after k fun _ _ => id, h.n1, h.n2, h.hD, h.hws, h.hac, Nat.le_trans h.hb k.size, h.ha, h.he⟩
theorem MsIn.fp (h : MsIn w M bk so cap dv s ea v ps) : Fp w w M bk dv s ea v ps :=
  ⟨h.raw, ⟨bk, so, cap, dv, h.ref⟩, Wrote.refl _ w, fun j hj => by
    rcases hj with hj | hj
    · exact h.raw.lt hj
    · exact (foot_lt h.ref hj).2, fun j hj => (foot_lt h.ref hj).1, h.hb⟩
theorem MsIn.start (h : MsIn w M bk so cap dv s ea v ps) : ∀ Z, Z = (w.alloc (.cells #[.int .i64 0, .int .i64 0, .int .i64 0, .int .i64 0] 109)).alloc (.cells #[.int .i64 0, .int .i64 0, .int .i64 0, .int .i64 0] 109) →
    Fm w Z M bk dv s ea v ps w.heap.size (w.heap.size + 1) Dd.no ∧ RefAt Z M.base M.pr bk so cap dv ps ∧ Wrote Nil w Z := by
  rintro Z rfl
  have e1 : (w.alloc (.cells #[.int .i64 0, .int .i64 0, .int .i64 0, .int .i64 0] 109)).heap.size = w.heap.size + 1 := Go.Deep.nblk_alloc _ _
  have k : Wrote Nil w ((w.alloc (.cells #[.int .i64 0, .int .i64 0, .int .i64 0, .int .i64 0] 109)).alloc (.cells #[.int .i64 0, .int .i64 0, .int .i64 0, .int .i64 0] 109)) := ((Wrote.refl _ w).alloc _).alloc _
  refine ⟨⟨h.fp.after k, ?_, ?_, ⟨Nat.le_refl _, Nat.le_succ _, by omega⟩⟩, h.ref.after k fun _ _ => id, k⟩
  · rw [Go.Deep.blk_alloc_lt _ _ _ (by rw [e1]; omega), Go.Deep.blk_alloc_new]; rfl
  · rw [← e1, Go.Deep.blk_alloc_new]; rfl
theorem MlRaw.cellsK {a b c e : Int} {k : Nat} (h : MlRaw w M s ea (vk v k a b c e)) (hk : k < s.n) : MlRaw.Cells w M s.n ea k a b c e := by
  have := h.cells hk
  obtain ⟨e0, e1, e2, e3⟩ := vk_k v k a b c e
  rw [e0, e1, e2, e3] at this
  exact this
theorem Fm.dcell (h : Fm w X M bk dv s ea v ps R C d) : X.cell? ⟨C, 0, none⟩ = some (.int .i64 d.ev) ∧ X.cell? ⟨C, 1, none⟩ = some (.int .i64 (b2i d.enq)) ∧ X.cell? ⟨C, 2, none⟩ = some (.int .i64 (b2i d.arr)) ∧ X.cell? ⟨C, 3, none⟩ = some (.int .i64 (b2i d.lead)) := by
  rw [blk_cell h.did, blk_cell h.did, blk_cell h.did, blk_cell h.did]; exact ⟨rfl, rfl, rfl, rfl⟩
theorem Fm.dfrz (h : Fm w X M bk dv s ea v ps R C d) : X.frozen? ⟨C, 0, none⟩ = false ∧ X.frozen? ⟨C, 1, none⟩ = false ∧ X.frozen? ⟨C, 2, none⟩ = false ∧ X.frozen? ⟨C, 3, none⟩ = false := ⟨blk_frozen h.did 0, blk_frozen h.did 1, blk_frozen h.did 2, blk_frozen h.did 3⟩
theorem Fm.rcell (h : Fm w X M bk dv s ea v ps R C d) : X.cell? ⟨R, 0, none⟩ = some (.int .i64 0) ∧ X.cell? ⟨R, 1, none⟩ = some (.int .i64 0) ∧ X.cell? ⟨R, 2, none⟩ = some (.int .i64 0) ∧ X.cell? ⟨R, 3, none⟩ = some (.int .i64 0) := by
  rw [blk_cell h.res, blk_cell h.res, blk_cell h.res, blk_cell h.res]; exact ⟨rfl, rfl, rfl, rfl⟩
theorem Fm.rfrz (h : Fm w X M bk dv s ea v ps R C d) : X.frozen? ⟨R, 0, none⟩ = false ∧ X.frozen? ⟨R, 1, none⟩ = false ∧ X.frozen? ⟨R, 2, none⟩ = false ∧ X.frozen? ⟨R, 3, none⟩ = false := ⟨blk_frozen h.res 0, blk_frozen h.res 1, blk_frozen h.res 2, blk_frozen h.res 3⟩
end
section
variable {w X : World} {M : Mp} {bk : Nat} {dv : Value} {s : SS} {ea : Nat} {v : Nat → Nat → Int} {ps : PSta} {R C k : Nat} {a b c e : Int} {d : Dd}
theorem Fm.s0 (h : Fm w X M bk dv s ea (vk v k a b c e) ps R C d) (x : Int) : Fm w (X.setCell ⟨M.rw 0, k, none⟩ (.int .i64 x)) M bk dv s ea (vk v k x b c e) ps R C d := by have := h.set 0 (by decide) k x; rw [(vk_set v k a b c e x).1] at this; exact this
theorem Fm.s1 (h : Fm w X M bk dv s ea (vk v k a b c e) ps R C d) (x : Int) : Fm w (X.setCell ⟨M.rw 1, k, none⟩ (.int .i64 x)) M bk dv s ea (vk v k a x c e) ps R C d := by have := h.set 1 (by decide) k x; rw [(vk_set v k a b c e x).2.1] at this; exact this
theorem Fm.s2 (h : Fm w X M bk dv s ea (vk v k a b c e) ps R C d) (x : Int) : Fm w (X.setCell ⟨M.rw 2, k, none⟩ (.int .i64 x)) M bk dv s ea (vk v k a b x e) ps R C d := by have := h.set 2 (by decide) k x; rw [(vk_set v k a b c e x).2.2.1] at this; exact this
theorem Fm.s3 (h : Fm w X M bk dv s ea (vk v k a b c e) ps R C d) (x : Int) : Fm w (X.setCell ⟨M.rw 3, k, none⟩ (.int .i64 x)) M bk dv s ea (vk v k a b c x) ps R C d := by have := h.set 3 (by decide) k x; rw [(vk_set v k a b c e x).2.2.2] at this; exact this
theorem Fp.s0 (h : Fp w X M bk dv s ea (vk v k a b c e) ps) (x : Int) : Fp w (X.setCell ⟨M.rw 0, k, none⟩ (.int .i64 x)) M bk dv s ea (vk v k x b c e) ps := by have := h.set 0 (by decide) k x; rw [(vk_set v k a b c e x).1] at this; exact this
theorem Fp.s1 (h : Fp w X M bk dv s ea (vk v k a b c e) ps) (x : Int) : Fp w (X.setCell ⟨M.rw 1, k, none⟩ (.int .i64 x)) M bk dv s ea (vk v k a x c e) ps := by have := h.set 1 (by decide) k x; rw [(vk_set v k a b c e x).2.1] at this; exact this
theorem Fp.s2 (h : Fp w X M bk dv s ea (vk v k a b c e) ps) (x : Int) : Fp w (X.setCell ⟨M.rw 2, k, none⟩ (.int .i64 x)) M bk dv s ea (vk v k a b x e) ps := by have := h.set 2 (by decide) k x; rw [(vk_set v k a b c e x).2.2.1] at this; exact this
/-- behind a call: what it told, what is there now -/
def RkPost (w : World) (M : Mp) (bk : Nat) (dv : Value) (s : SS) (ea : Nat) (v : Nat → Nat → Int) (ps : PSta) (r : Value) (e : Ending) (w' : World) : Prop := e = .returned r ∧ Fp w w' M bk dv s ea v ps
/-- the end: the result is laid -/
theorem Fm.told (h : Fm w X M bk dv s ea v ps R C d) :
    RkPost w M bk dv s ea v ps d.rval (.returned d.rval) ((((X.setCell ⟨R, 0, none⟩ (.int .i64 d.ev)).setCell ⟨R, 1, none⟩ (.int .i64 (b2i d.enq))).setCell ⟨R, 2, none⟩ (.int .i64 (b2i d.arr))).setCell ⟨R, 3, none⟩ (.int .i64 (b2i d.lead))) := by
  have k := wrote4 X R (.int .i64 d.ev) (.int .i64 (b2i d.enq)) (.int .i64 (b2i d.arr)) (.int .i64 (b2i d.lead))
  have hn := h.new
  have hC : ∀ b, MG M bk dv b → ¬ One R b := fun b hb e => by have := h.fp.old b hb; cases e; omega
  have hbw := h.fp.bw
  have hlr := h.raw.low.1
  exact ⟨rfl, h.raw.wrote k (fun e => by cases e; omega) fun j hj => hC j (.inl hj), ref_off h.fp.ref k h.res, h.fp.wr.trans k fun b hb e => by cases e; omega, h.fp.old, h.fp.bs, h.fp.bw⟩
/-- all that it did is laid -/
theorem Fm.setAll (h : Fm w X M bk dv s ea v ps R C Dd.no) (d : Dd) : Fm w ((((X.setCell ⟨C, 0, none⟩ (.int .i64 d.ev)).setCell ⟨C, 1, none⟩ (.int .i64 (b2i d.enq))).setCell ⟨C, 2, none⟩ (.int .i64 (b2i d.arr))).setCell ⟨C, 3, none⟩ (.int .i64 (b2i d.lead))) M bk dv s ea v ps R C d :=
  (((h.setD 0 _ ⟨d.ev, false, false, false⟩ rfl).setD 1 _ ⟨d.ev, d.enq, false, false⟩ rfl).setD 2 _ ⟨d.ev, d.enq, d.arr, false⟩ rfl).setD 3 _ d rfl
end
/-! ### addresses -/
theorem wrapsR {a x : Int} (h0 : 0 ≤ a) (h1 : a ≤ 4096) (h2 : 0 ≤ x) (h3 : x < 4294967296) : IntKind.i64.wrap (a + 1) = a + 1 ∧ IntKind.i64.wrap (x - 1) = x - 1 ∧ IntKind.i64.wrap (3 * (x - 1)) = 3 * (x - 1) ∧ IntKind.i64.wrap (a + 1 + 3 * (x - 1)) = a + 1 + 3 * (x - 1) ∧ IntKind.i64.wrap (a + 1 + 3 * (x - 1) + 1) = a + 1 + 3 * (x - 1) + 1 ∧ IntKind.i64.wrap (a + 1 + 3 * (x - 1) + 2) = a + 1 + 3 * (x - 1) + 2 := by
  rw [IntKind.wrap_i64, IntKind.wrap_i64, IntKind.wrap_i64, IntKind.wrap_i64, IntKind.wrap_i64, IntKind.wrap_i64]; omega
theorem rl_wordS {w : World} {M : Mp} {s : SS} {ea : Nat} {v : Nat → Nat → Int} (h : MlRaw w M s ea v) (ha : 0 ≤ M.a ∧ M.a ≤ 4096) {L : Lp} (hL : L.a2 = M.a + 1) (x : Int) (hx : 0 ≤ x ∧ x < 4294967296) :
    Calls Tryz.prog 116 #[.pointer (some ⟨M.r, 0, none⟩), .int .i64 x, .int .i64 0] w fun e w' => e = .returned (.int .i64 (L.sA x)) ∧ w = w' := by
  have c1 := h.cell1
  obtain ⟨w1, w2, w3, w4, w5, w6⟩ := wrapsR ha.1 ha.2 hx.1 hx.2
  have e : L.sA x = M.a + 1 + 3 * (x - 1) := by unfold Lp.sA; omega
  rw [e]
  clear h e w5 w6
  go_enter Tryz.func116, Tryz.ntmps116
  go_wp2
  go_ret
  exact ⟨by first | rfl | simp, rfl⟩
theorem rl_wordN {w : World} {M : Mp} {s : SS} {ea : Nat} {v : Nat → Nat → Int} (h : MlRaw w M s ea v) (ha : 0 ≤ M.a ∧ M.a ≤ 4096) {L : Lp} (hL : L.a2 = M.a + 1) (x : Int) (hx : 0 ≤ x ∧ x < 4294967296) :
    Calls Tryz.prog 116 #[.pointer (some ⟨M.r, 0, none⟩), .int .i64 x, .int .i64 1] w fun e w' => e = .returned (.int .i64 (L.nA x)) ∧ w = w' := by
  have c1 := h.cell1
  obtain ⟨w1, w2, w3, w4, w5, w6⟩ := wrapsR ha.1 ha.2 hx.1 hx.2
  have e : L.nA x = M.a + 1 + 3 * (x - 1) + 1 := by unfold Lp.nA; omega
  rw [e]
  clear h e w6
  go_enter Tryz.func116, Tryz.ntmps116
  go_wp2
  go_ret
  exact ⟨by first | rfl | simp, rfl⟩
theorem rl_wordO {w : World} {M : Mp} {s : SS} {ea : Nat} {v : Nat → Nat → Int} (h : MlRaw w M s ea v) (ha : 0 ≤ M.a ∧ M.a ≤ 4096) {L : Lp} (hL : L.a2 = M.a + 1) (x : Int) (hx : 0 ≤ x ∧ x < 4294967296) :
    Calls Tryz.prog 116 #[.pointer (some ⟨M.r, 0, none⟩), .int .i64 x, .int .i64 2] w fun e w' => e = .returned (.int .i64 (L.oA x)) ∧ w = w' := by
  have c1 := h.cell1
  obtain ⟨w1, w2, w3, w4, w5, w6⟩ := wrapsR ha.1 ha.2 hx.1 hx.2
  have e : L.oA x = M.a + 1 + 3 * (x - 1) + 2 := by unfold Lp.oA; omega
  rw [e]
  clear h e w5
  go_enter Tryz.func116, Tryz.ntmps116
  go_wp2
  go_ret
  exact ⟨by first | rfl | simp, rfl⟩
end Go.Proofs.YtdhpmcafekpfhaaGreat
