/- The reference's MCS lock in the heap: its seats, rows of steps and of those ahead or behind; its port's accesses by their names. -/
import Derived.Test.YtpaihjlohcakjaaMcs
import Derived.Test.YtpaihjlohcakjaaSeatTwo
import Derived.Test.YtpaihjlohcakjaaPortSame
import Derived.BigRegion
namespace Go.Proofs.Ytpaihjlohcakjaa
open Go.RowKit
set_option linter.unusedVariables false
set_option maxRecDepth 100000

/-! ### its port's accesses -/
def RaPost (base r bk : Nat) (dv : Value) (s : PSta) (v : Value) (w : World) (e : Ending) (w' : World) : Prop := e = .returned v ∧ RefSt w' base r s ∧ Wrote (Foot r bk dv) w w'
section
variable {w : World} {base r bk : Nat} {so : Option Addr} {cap : Nat} {dv : Value} {s : PSta}
theorem ra_load (h : RefAt w base r bk so cap dv s) (t a : Int) (hD : s.D.length < 1000000) (hws : s.ws.length ≤ 4096) (hac : s.ac.length ≤ 64) (hbase : base ≤ w.heap.size) :
    Calls Try.prog 111 #[.pointer (some ⟨r, 0, none⟩), .int .i64 t, .int .i64 a] w (RaPost base r bk dv (doS s t 1 a 0 0) (.int .u32 (tellS s t 1 a)) w) := by
  have c := rdo_any h t 1 a 0 0 (by omega) (by omega) hD hws hac hbase
  clear h
  go_enter Try.func111, Try.ntmps111
  go_wp2_with (go_at_call 114; with_reducible refine c.mono ?_; intro e w2 hq; unfold RDoPost at hq; obtain ⟨rfl, hR, hW⟩ := hq)
  go_ret
  exact ⟨rfl, hR, hW⟩
theorem ra_swap (h : RefAt w base r bk so cap dv s) (t a d : Int) (d0 : 0 ≤ d) (d1 : d < 4294967296) (hD : s.D.length < 1000000) (hws : s.ws.length ≤ 4096) (hac : s.ac.length ≤ 64) (hbase : base ≤ w.heap.size) :
    Calls Try.prog 110 #[.pointer (some ⟨r, 0, none⟩), .int .i64 t, .int .i64 a, .int .u32 d] w (RaPost base r bk dv (doS s t 3 a 0 d) (.int .u32 (tellS s t 3 a)) w) := by
  have c := rdo_any h t 3 a 0 d d0 d1 hD hws hac hbase
  clear h
  go_enter Try.func110, Try.ntmps110
  go_wp2_with (go_at_call 114; with_reducible refine c.mono ?_; intro e w2 hq; unfold RDoPost at hq; obtain ⟨rfl, hR, hW⟩ := hq)
  go_ret
  exact ⟨rfl, hR, hW⟩
theorem ra_store (h : RefAt w base r bk so cap dv s) (t a v : Int) (d0 : 0 ≤ v) (d1 : v < 4294967296) (hD : s.D.length < 1000000) (hws : s.ws.length ≤ 4096) (hac : s.ac.length ≤ 64) (hbase : base ≤ w.heap.size) :
    Calls Try.prog 109 #[.pointer (some ⟨r, 0, none⟩), .int .i64 t, .int .i64 a, .int .u32 v] w (RaPost base r bk dv (doS s t 2 a 0 v) (.tuple #[]) w) := by
  have c := rdo_any h t 2 a 0 v d0 d1 hD hws hac hbase
  clear h
  go_enter Try.func109, Try.ntmps109
  go_wp2_with (go_at_call 114; with_reducible refine c.mono ?_; intro e w2 hq; unfold RDoPost at hq; obtain ⟨rfl, hR, hW⟩ := hq)
  go_end0
  exact ⟨rfl, hR, hW⟩
theorem did_cas (s : PSta) (t a old : Int) : (didS s t 4 a old == 1) = casT s t a old := by
  unfold didS okS casT
  rw [show decide ((1 : Int) ≤ 4 ∧ (4 : Int) ≤ 5) = true by decide, Bool.and_true]
  cases okT s t a
  · rfl
  · rw [if_pos rfl, Bool.true_and]
    unfold didI
    cases casB s.ws a old
    · rw [if_neg (fun q => absurd q.2 (by decide))]; rfl
    · rw [if_pos ⟨rfl, rfl⟩]; rfl
theorem ra_cas (h : RefAt w base r bk so cap dv s) (t a old v : Int) (d0 : 0 ≤ v) (d1 : v < 4294967296) (hD : s.D.length < 1000000) (hws : s.ws.length ≤ 4096) (hac : s.ac.length ≤ 64) (hbase : base ≤ w.heap.size) :
    Calls Try.prog 112 #[.pointer (some ⟨r, 0, none⟩), .int .i64 t, .int .i64 a, .int .u32 old, .int .u32 v] w (RaPost base r bk dv (doS s t 4 a old v) (.bool (casT s t a old)) w) := by
  have c := rdo_any h t 4 a old v d0 d1 hD hws hac hbase
  have e := did_cas s t a old
  generalize didS s t 4 a old = x at *
  clear h
  go_enter Try.func112, Try.ntmps112
  go_wp2_with (go_at_call 114; with_reducible refine c.mono ?_; intro e w2 hq; unfold RDoPost at hq; obtain ⟨rfl, hR, hW⟩ := hq)
  go_ret
  exact ⟨by first | rfl | rw [e], hR, hW⟩
end

/-! ### rows -/
def rowA (n : Nat) (g : Nat → Value) : Array Value := ((List.range n).map g).toArray
theorem rowA_at {n : Nat} (g : Nat → Value) {k : Nat} (hk : k < n) : (rowA n g)[k]? = some (g k) := by
  unfold rowA
  rw [List.getElem?_toArray, List.getElem?_map, List.getElem?_range hk]
  rfl
theorem rowA_set (n : Nat) (g : Nat → Value) (k : Nat) (v : Value) : (rowA n g).setIfInBounds k v = rowA n (upd g k v) := by
  unfold rowA
  rw [List.setIfInBounds_toArray]
  congr 1
  apply List.ext_getElem?
  intro m
  rw [List.getElem?_set, List.getElem?_map, List.getElem?_map]
  by_cases hm : m < n
  · rw [List.getElem?_range hm]
    by_cases e : k = m
    · subst e
      rw [if_pos rfl, if_pos (by simpa using hm)]
      show _ = some (upd g k v k)
      rw [upd_same]
    · rw [if_neg e]
      show some (g m) = some (upd g k v m)
      rw [upd_other _ _ (fun x => e x.symm)]
  · have e0 : (List.range n)[m]? = none := List.getElem?_eq_none (by simp; omega)
    rw [e0]
    by_cases e : k = m
    · subst e; rw [if_pos rfl, if_neg (by simpa using hm)]; rfl
    · rw [if_neg e]; rfl
theorem made_row (x : Value) (n : Nat) : madeCells #[x] (n * 1) = rowA n (fun _ => x) := by
  apply Array.ext'
  apply List.ext_getElem?
  intro m
  unfold madeCells rowA
  rw [Nat.mul_one]
  by_cases hm : m < n
  · rw [Array.toList_map, List.getElem?_map, Array.toList_range, List.getElem?_range hm, List.getElem?_map, List.getElem?_range hm]
    simp [Nat.mod_one]
  · rw [List.getElem?_eq_none (by simp; omega), List.getElem?_eq_none (by simp; omega)]
def inV (m : Nat → Int) (k : Nat) : Value := .int .i64 (m k)
theorem inV_upd (m : Nat → Int) (k : Nat) (x : Int) : upd (inV m) k (.int .i64 x) = inV (upd m k x) := by
  funext j
  by_cases e : j = k
  · subst e; rw [upd_same]; unfold inV; rw [upd_same]
  · rw [upd_other _ _ e]; unfold inV; rw [upd_other _ _ e]

/-! ### the lock -/
/-- where it lies: its struct, its seats, its rows; its words' address; its port's block; where its port's memory begins -/
structure Mp where
  r : Nat
  sr : Nat
  hv : Value
  dv : Value
  pc : Nat
  ot : Nat
  a : Int
  pr : Nat
  base : Nat
structure MlRaw (w : World) (M : Mp) (s : SS) (p o : Nat → Int) : Prop where
  obj : w.heap[M.r]? = some (.cells #[.pointer (some ⟨M.sr, 0, none⟩), .int .i64 M.a, .slice (some ⟨M.pc, 0, none⟩) s.n s.n, .slice (some ⟨M.ot, 0, none⟩) s.n s.n] 88 (0, 0))
  seat : RsAt w M.sr M.hv M.dv s
  pcs : w.heap[M.pc]? = some (.cells (rowA s.n (inV p)) 3 (0, 0))
  ots : w.heap[M.ot]? = some (.cells (rowA s.n (inV o)) 3 (0, 0))
  ne : M.r ≠ M.pc ∧ M.r ≠ M.ot ∧ M.pc ≠ M.ot
  off : ∀ k, SF M.sr M.hv M.dv k → k ≠ M.r ∧ k ≠ M.pc ∧ k ≠ M.ot
  low : M.r < M.base ∧ M.pc < M.base ∧ M.ot < M.base ∧ ∀ k, SF M.sr M.hv M.dv k → k < M.base
/-- the blocks that a call of it may turn -/
def MF (M : Mp) (k : Nat) : Prop := k = M.pc ∨ k = M.ot ∨ SF M.sr M.hv M.dv k
theorem mf_sf {M : Mp} {k : Nat} (h : SF M.sr M.hv M.dv k) : MF M k := .inr (.inr h)
namespace MlRaw
variable {w w' : World} {M : Mp} {s s' : SS} {p o : Nat → Int}
theorem wrote {S : Nat → Prop} (h : MlRaw w M s p o) (k : Wrote S w w') (h1 : ¬ S M.r) (h2 : ∀ j, MF M j → ¬ S j) : MlRaw w' M s p o :=
  ⟨(k.block _ (blk_lt h.obj) h1).trans h.obj, h.seat.wrote k fun j hj => h2 j (mf_sf hj), (k.block _ (blk_lt h.pcs) (h2 _ (.inl rfl))).trans h.pcs, (k.block _ (blk_lt h.ots) (h2 _ (.inr (.inl rfl)))).trans h.ots, h.ne, h.off, h.low⟩
theorem after (h : MlRaw w M s p o) (k : Wrote Nil w w') : MlRaw w' M s p o := h.wrote k id fun _ _ => id
theorem low2 (h : MlRaw w M s p o) {k : Nat} (hk : MF M k) : k < M.base := by
  have hl := h.low
  rcases hk with rfl | rfl | hk
  · exact hl.2.1
  · exact hl.2.2.1
  · exact hl.2.2.2 k hk
/-- what writes behind its port's memory's beginning -/
theorem port {S : Nat → Prop} (h : MlRaw w M s p o) (k : Wrote S w w') (hS : ∀ b, S b → M.base ≤ b) : MlRaw w' M s p o :=
  h.wrote k (fun e => by have := hS _ e; have := h.low.1; omega) fun j hj e => by have := hS _ e; have := h.low2 hj; omega
theorem seats (h : MlRaw w M s p o) (hS : RsAt w' M.sr M.hv M.dv s') (hn : s'.n = s.n) (k : Wrote (SF M.sr M.hv M.dv) w w') : MlRaw w' M s' p o := by
  refine ⟨?_, hS, ?_, ?_, h.ne, h.off, h.low⟩
  · rw [hn]; exact (k.block _ (blk_lt h.obj) fun e => (h.off _ e).1 rfl).trans h.obj
  · rw [hn]; exact (k.block _ (blk_lt h.pcs) fun e => (h.off _ e).2.1 rfl).trans h.pcs
  · rw [hn]; exact (k.block _ (blk_lt h.ots) fun e => (h.off _ e).2.2 rfl).trans h.ots
theorem cell0 (h : MlRaw w M s p o) : w.cell? ⟨M.r, 0, none⟩ = some (.pointer (some ⟨M.sr, 0, none⟩)) := by rw [blk_cell h.obj]; rfl
theorem cell1 (h : MlRaw w M s p o) : w.cell? ⟨M.r, 1, none⟩ = some (.int .i64 M.a) := by rw [blk_cell h.obj]; rfl
theorem cell2 (h : MlRaw w M s p o) : w.cell? ⟨M.r, 2, none⟩ = some (.slice (some ⟨M.pc, 0, none⟩) s.n s.n) := by rw [blk_cell h.obj]; rfl
theorem cell3 (h : MlRaw w M s p o) : w.cell? ⟨M.r, 3, none⟩ = some (.slice (some ⟨M.ot, 0, none⟩) s.n s.n) := by rw [blk_cell h.obj]; rfl
theorem pcC (h : MlRaw w M s p o) {k : Nat} (hk : k < s.n) : w.cell? ⟨M.pc, k, none⟩ = some (.int .i64 (p k)) := by rw [blk_cell h.pcs, rowA_at _ hk]; rfl
theorem otC (h : MlRaw w M s p o) {k : Nat} (hk : k < s.n) : w.cell? ⟨M.ot, k, none⟩ = some (.int .i64 (o k)) := by rw [blk_cell h.ots, rowA_at _ hk]; rfl
theorem pcZ (h : MlRaw w M s p o) (k : Nat) : w.frozen? ⟨M.pc, k, none⟩ = false := blk_frozen h.pcs k
theorem otZ (h : MlRaw w M s p o) (k : Nat) : w.frozen? ⟨M.ot, k, none⟩ = false := blk_frozen h.ots k
theorem setP (h : MlRaw w M s p o) (k : Nat) (b : Int) : MlRaw (w.setCell ⟨M.pc, k, none⟩ (.int .i64 b)) M s (upd p k b) o := by
  have hW : Wrote (One M.pc) w (w.setCell ⟨M.pc, k, none⟩ (.int .i64 b)) := (Wrote.refl _ w).setCell _ _ fun _ => rfl
  have hne := h.ne
  refine ⟨(hW.block _ (blk_lt h.obj) hne.1).trans h.obj, h.seat.wrote hW fun j hj e => (h.off j hj).2.1 e, ?_, (hW.block _ (blk_lt h.ots) fun e => hne.2.2 e.symm).trans h.ots, h.ne, h.off, h.low⟩
  rw [blk_setCell h.pcs, rowA_set, inV_upd]
theorem setO (h : MlRaw w M s p o) (k : Nat) (x : Int) : MlRaw (w.setCell ⟨M.ot, k, none⟩ (.int .i64 x)) M s p (upd o k x) := by
  have hW : Wrote (One M.ot) w (w.setCell ⟨M.ot, k, none⟩ (.int .i64 x)) := (Wrote.refl _ w).setCell _ _ fun _ => rfl
  have hne := h.ne
  refine ⟨(hW.block _ (blk_lt h.obj) hne.2.1).trans h.obj, h.seat.wrote hW fun j hj e => (h.off j hj).2.2 e, (hW.block _ (blk_lt h.pcs) hne.2.2).trans h.pcs, ?_, h.ne, h.off, h.low⟩
  rw [blk_setCell h.ots, rowA_set, inV_upd]
theorem lt (h : MlRaw w M s p o) {k : Nat} (hk : MF M k) : k < w.heap.size := by
  rcases hk with rfl | rfl | hk
  · exact blk_lt h.pcs
  · exact blk_lt h.ots
  · exact SrAt.lt h.seat hk
end MlRaw

/-! ### a result that is a struct -/
def ridC (d : Dd) : Array Value := #[.int .i64 d.ev, .int .i64 (b2i d.enq), .int .i64 (b2i d.arr), .int .i64 (b2i d.lead)]
theorem ridC_i64 (d : Dd) (o : Nat) (v : Value) (h : (ridC d)[o]? = some v) : ∃ z, v = .int .i64 z := by
  unfold ridC at h
  match o, h with
  | 0, h => exact ⟨_, by simpa using h.symm⟩
  | 1, h => exact ⟨_, by simpa using h.symm⟩
  | 2, h => exact ⟨_, by simpa using h.symm⟩
  | 3, h => exact ⟨_, by simpa using h.symm⟩
  | o + 4, h => simp at h
/-- what a step did lies apart from its port -/
theorem ref_off_at {X Y : World} {base r bk C : Nat} {so : Option Addr} {cap : Nat} {dv : Value} {ps : PSta} {d : Dd} (hr : RefAt X base r bk so cap dv ps) (k : Wrote (One C) X Y) (hd : X.heap[C]? = some (.cells (ridC d) 114 (0, 0))) : RefAt Y base r bk so cap dv ps := by
  have f1 : r ≠ C := fun e => by
    have h1 := hr.obj; rw [e, hd] at h1; cases h1
  have f2 : bk ≠ C := fun e => by
    obtain ⟨cs, h1, _⟩ := hr.counts
    rw [e, hd] at h1; cases h1
  have f3 : ∀ j, dv.ownBlock = some j → j ≠ C := fun j hj e => by
    rcases hr.touched.2 with ⟨rfl, _⟩ | ⟨g, cap, cur, rfl, _, hg, _⟩
    · simp [Value.ownBlock] at hj
    · obtain rfl : g = j := by simpa [Value.ownBlock] using hj
      rw [e, hd] at hg; cases hg
  refine ⟨(k.block _ (blk_lt hr.obj) f1).trans hr.obj, ?_, hr.wblk, ownsRow_keep hr.touched fun j hj => k.block j (hr.touched.lt j hj).2 (f3 j hj), hr.tblk, hr.counts.of_block (k.block _ hr.counts.lt f2), hr.lv, hr.lm, hr.rngA, hr.rngV, hr.rngM, hr.rngW, hr.low⟩
  rcases hr.words.at with e0 | ⟨b, o, rfl, hc⟩
  · exact ⟨hr.words.len, hr.words.empty, fun b hb j hj => by omega⟩
  · by_cases e0 : ps.ws.length = 0
    · exact ⟨hr.words.len, hr.words.empty, fun b hb j hj => by omega⟩
    · refine hr.words.wrote k fun a ha e => ?_
      cases ha
      have hb : b = C := e
      subst hb
      have hc0 := hc 0 (by omega)
      rw [blk_cell hd] at hc0
      obtain ⟨z, hz⟩ := ridC_i64 d _ _ hc0
      cases hz
theorem ref_off {X Y : World} {base r C : Nat} {ps : PSta} {d : Dd} (h : RefSt X base r ps) (k : Wrote (One C) X Y) (hd : X.heap[C]? = some (.cells (ridC d) 114 (0, 0))) : RefSt Y base r ps := by
  obtain ⟨bk2, so2, cap2, dv2, hr⟩ := h
  exact ⟨bk2, so2, cap2, dv2, ref_off_at hr k hd⟩
/-- all that a step may turn -/
def MG (M : Mp) (bk : Nat) (dv : Value) (k : Nat) : Prop := MF M k ∨ Foot M.pr bk dv k
structure Fm (w X : World) (M : Mp) (bk : Nat) (dv : Value) (s : SS) (p o : Nat → Int) (ps : PSta) (R C : Nat) (d : Dd) : Prop where
  raw : MlRaw X M s p o
  ref : RefSt X M.base M.pr ps
  res : X.heap[R]? = some (.cells (ridC Dd.no) 114 (0, 0))
  did : X.heap[C]? = some (.cells (ridC d) 114 (0, 0))
  wr : Wrote (MG M bk dv) w X
  new : w.heap.size ≤ R ∧ w.heap.size ≤ C ∧ R ≠ C
  old : ∀ k, MG M bk dv k → k < w.heap.size
  bs : ∀ k, Foot M.pr bk dv k → M.base ≤ k
  bw : M.base ≤ w.heap.size
namespace Fm
variable {w X Y : World} {M : Mp} {bk : Nat} {dv : Value} {s s' : SS} {p o : Nat → Int} {ps ps' : PSta} {R C : Nat} {d : Dd}
theorem after (h : Fm w X M bk dv s p o ps R C d) (k : Wrote Nil X Y) : Fm w Y M bk dv s p o ps R C d := by
  obtain ⟨bk2, so2, cap2, dv2, hr⟩ := h.ref
  exact ⟨h.raw.after k, ⟨bk2, so2, cap2, dv2, hr.after k fun _ _ => id⟩, (k.block _ (blk_lt h.res) id).trans h.res, (k.block _ (blk_lt h.did) id).trans h.did, h.wr.trans k fun _ _ e => e.elim, h.new, h.old, h.bs, h.bw⟩
theorem drew (h : Fm w X M bk dv s p o ps R C d) : Fm w X.drew M bk dv s p o ps R C d := h.after ((Wrote.refl _ X).drew)
theorem drewN (h : Fm w X M bk dv s p o ps R C d) (n : Nat) : Fm w (X.drewN n) M bk dv s p o ps R C d := h.after ((Wrote.refl _ X).drewN n)
theorem port (h : Fm w X M bk dv s p o ps R C d) (hR : RefSt Y M.base M.pr ps') (k : Wrote (Foot M.pr bk dv) X Y) : Fm w Y M bk dv s p o ps' R C d := by
  have hn := h.new
  refine ⟨h.raw.port k h.bs, hR, (k.block _ (blk_lt h.res) fun e => ?_).trans h.res, (k.block _ (blk_lt h.did) fun e => ?_).trans h.did, h.wr.trans k fun _ _ e => .inr e, h.new, h.old, h.bs, h.bw⟩
  · have := h.old R (.inr e); omega
  · have := h.old C (.inr e); omega
/-- what writes to blocks of the lock's own -/
theorem own (h : Fm w X M bk dv s p o ps R C d) {S : Nat → Prop} {p' o' : Nat → Int} (hR : MlRaw Y M s' p' o') (k : Wrote S X Y) (hS : ∀ b, S b → MF M b) : Fm w Y M bk dv s' p' o' ps R C d := by
  have hn := h.new
  have hl : ∀ b, MF M b → b < M.base := fun b hb => h.raw.low2 hb
  obtain ⟨bk2, so2, cap2, dv2, hr⟩ := h.ref
  refine ⟨hR, ⟨bk2, so2, cap2, dv2, hr.after k fun b hb e => by have := hl b (hS b e); omega⟩, (k.block _ (blk_lt h.res) fun e => ?_).trans h.res, (k.block _ (blk_lt h.did) fun e => ?_).trans h.did, h.wr.trans k fun b _ e => .inl (hS b e), h.new, h.old, h.bs, h.bw⟩
  · have := h.old R (.inl (hS _ e)); omega
  · have := h.old C (.inl (hS _ e)); omega
theorem setP (h : Fm w X M bk dv s p o ps R C d) (k : Nat) (b : Int) : Fm w (X.setCell ⟨M.pc, k, none⟩ (.int .i64 b)) M bk dv s (upd p k b) o ps R C d :=
  h.own (S := One M.pc) (h.raw.setP k b) ((Wrote.refl _ X).setCell _ _ fun _ => rfl) fun _ e => .inl e
theorem setO (h : Fm w X M bk dv s p o ps R C d) (k : Nat) (x : Int) : Fm w (X.setCell ⟨M.ot, k, none⟩ (.int .i64 x)) M bk dv s p (upd o k x) ps R C d :=
  h.own (S := One M.ot) (h.raw.setO k x) ((Wrote.refl _ X).setCell _ _ fun _ => rfl) fun _ e => .inr (.inl e)
theorem ends (h : Fm w X M bk dv s p o ps R C d) {x : Int} {e : Ending} (hn : s'.n = s.n) (k : RsPost X M.sr M.hv M.dv s' x e Y) : Fm w Y M bk dv s' p o ps R C d :=
  h.own (h.raw.seats k.2.1 hn k.2.2) k.2.2 fun _ e => mf_sf e
/-- a field of what the step did -/
theorem setD (h : Fm w X M bk dv s p o ps R C d) (i : Nat) (v : Value) (d' : Dd) (hd : (ridC d).setIfInBounds i v = ridC d') : Fm w (X.setCell ⟨C, i, none⟩ v) M bk dv s p o ps R C d' := by
  have k : Wrote (One C) X (X.setCell ⟨C, i, none⟩ v) := (Wrote.refl _ X).setCell _ _ fun _ => rfl
  have hn := h.new
  have hC : ∀ b, MG M bk dv b → ¬ One C b := fun b hb e => by have := h.old b hb; cases e; omega
  have hbw := h.bw
  have hlr := h.raw.low.1
  refine ⟨h.raw.wrote k (fun e => by cases e; omega) fun j hj => hC j (.inl hj), ref_off h.ref k h.did, (k.block _ (blk_lt h.res) fun e => hn.2.2 e).trans h.res, ?_, ?_, h.new, h.old, h.bs, h.bw⟩
  · rw [blk_setCell h.did, hd]
  · exact h.wr.trans k fun b hb e => by cases e; omega
end Fm
end Go.Proofs.Ytpaihjlohcakjaa
