/- How a CLH lock lies in the heap, and what stores do to it; no walk. -/
import Derived.Test.YteokghghpmppnaaGreatDoorClhPlain
namespace Go.Proofs.YteokghghpmppnaaGreatDoor.Kc
open Go.RowKit
set_option linter.unusedVariables false
set_option maxRecDepth 100000

/-! ### in the heap -/
/-- the three cells of a place -/
def tkC (pc node ahd : Nat → Int) (t : Nat) : List Value := [.int .i64 (pc t), .int .u32 (node t), .int .u32 (ahd t)]
theorem tkC_len (pc node ahd : Nat → Int) : ∀ x, (tkC pc node ahd x).length = 3 := fun _ => rfl
def tks (n : Nat) (pc node ahd : Nat → Int) : List Value := (List.range n).flatMap (tkC pc node ahd)
theorem tks_at (n : Nat) (pc node ahd : Nat → Int) {k : Nat} (hk : k < n) {j : Nat} (hj : j < 3) : (tks n pc node ahd)[k * 3 + j]? = (tkC pc node ahd k)[j]? := flat_at' (tkC_len pc node ahd) _ (by rw [List.getElem?_range hk]) hj
theorem range_at {n i t : Nat} (ht : (List.range n)[i]? = some t) : i < n ∧ t = i := by
  have hi : i < n := by have := (List.getElem?_eq_some_iff.1 ht).1; simpa using this
  rw [List.getElem?_range hi] at ht
  exact ⟨hi, by simpa using ht.symm⟩
theorem tks_set0 (n : Nat) (pc node ahd : Nat → Int) (k : Nat) (x : Int) : (tks n pc node ahd).set (k * 3) (.int .i64 x) = tks n (upd pc k x) node ahd := by
  refine flat_set (tkC_len pc node ahd) (tkC_len _ _ _) _ k 0 (by decide) _ fun i t ht l hl => ?_
  obtain ⟨_, rfl⟩ := range_at ht
  have : l = 0 ∨ l = 1 ∨ l = 2 := by omega
  rcases this with rfl | rfl | rfl
  · by_cases e : t = k
    · subst e; simp [tkC, upd_same]
    · simp [tkC, upd_other _ _ e, e]
  · by_cases e : t = k
    · subst e; simp [tkC]
    · simp [tkC, e]
  · by_cases e : t = k
    · subst e; simp [tkC]
    · simp [tkC, e]
theorem tks_set1 (n : Nat) (pc node ahd : Nat → Int) (k : Nat) (x : Int) : (tks n pc node ahd).set (k * 3 + 1) (.int .u32 x) = tks n pc (upd node k x) ahd := by
  refine flat_set (tkC_len pc node ahd) (tkC_len _ _ _) _ k 1 (by decide) _ fun i t ht l hl => ?_
  obtain ⟨_, rfl⟩ := range_at ht
  have : l = 0 ∨ l = 1 ∨ l = 2 := by omega
  rcases this with rfl | rfl | rfl
  · by_cases e : t = k
    · subst e; simp [tkC]
    · simp [tkC, e]
  · by_cases e : t = k
    · subst e; simp [tkC, upd_same]
    · simp [tkC, upd_other _ _ e, e]
  · by_cases e : t = k
    · subst e; simp [tkC]
    · simp [tkC, e]
theorem tks_set2 (n : Nat) (pc node ahd : Nat → Int) (k : Nat) (x : Int) : (tks n pc node ahd).set (k * 3 + 2) (.int .u32 x) = tks n pc node (upd ahd k x) := by
  refine flat_set (tkC_len pc node ahd) (tkC_len _ _ _) _ k 2 (by decide) _ fun i t ht l hl => ?_
  obtain ⟨_, rfl⟩ := range_at ht
  have : l = 0 ∨ l = 1 ∨ l = 2 := by omega
  rcases this with rfl | rfl | rfl
  · by_cases e : t = k
    · subst e; simp [tkC]
    · simp [tkC, e]
  · by_cases e : t = k
    · subst e; simp [tkC]
    · simp [tkC, e]
  · by_cases e : t = k
    · subst e; simp [tkC, upd_same]
    · simp [tkC, upd_other _ _ e, e]

structure FlRaw (w : World) (L : Lp) (pv : Value) (s : SS) (pc node ahd : Nat → Int) : Prop where
  obj : w.heap[L.lb]? = some (.cells #[.pointer (some ⟨L.p, 0, none⟩), pv, .int .i64 L.a1, .int .i64 L.a2, .slice (some ⟨L.tb, 0, none⟩) s.n s.n] 96 (0, 0))
  seat : SeatAt w L.p L.b s
  tick : w.heap[L.tb]? = some (.cells (tks s.n pc node ahd).toArray 128 (0, 0))
  ne : L.lb ≠ L.b ∧ L.lb ≠ L.tb ∧ L.p ≠ L.tb ∧ L.b ≠ L.tb ∧ L.lb ≠ L.p
  rng : ∀ k, (pc k = 0 ∨ pc k = 1 ∨ pc k = 2) ∧ (0 ≤ node k ∧ node k < 4294967296) ∧ 0 ≤ ahd k ∧ ahd k < 4294967296
  adr : 0 ≤ L.a2 ∧ L.a2 ≤ 2000000

namespace FlRaw
variable {w w' : World} {L : Lp} {pv : Value} {s : SS} {pc node ahd : Nat → Int}
theorem wrote {S : Nat → Prop} (h : FlRaw w L pv s pc node ahd) (k : Wrote S w w') (h1 : ¬ S L.lb) (h2 : ¬ S L.p) (h3 : ¬ S L.b) (h4 : ¬ S L.tb) : FlRaw w' L pv s pc node ahd :=
  ⟨(k.block _ (blk_lt h.obj) h1).trans h.obj, h.seat.wrote k h2 h3, (k.block _ (blk_lt h.tick) h4).trans h.tick, h.ne, h.rng, h.adr⟩
theorem after (h : FlRaw w L pv s pc node ahd) (k : Wrote Nil w w') : FlRaw w' L pv s pc node ahd := h.wrote k id id id id
theorem seats {s' : SS} (h : FlRaw w L pv s pc node ahd) (hS : SeatAt w' L.p L.b s') (hn : s'.n = s.n) (k : Wrote (One L.b) w w') : FlRaw w' L pv s' pc node ahd := by
  refine ⟨?_, hS, ?_, h.ne, h.rng, h.adr⟩
  · rw [hn]; exact (k.block _ (blk_lt h.obj) h.ne.1).trans h.obj
  · rw [hn]; exact (k.block _ (blk_lt h.tick) (fun e => h.ne.2.2.2.1 e.symm)).trans h.tick
theorem cell0 (h : FlRaw w L pv s pc node ahd) : w.cell? ⟨L.lb, 0, none⟩ = some (.pointer (some ⟨L.p, 0, none⟩)) := by rw [blk_cell h.obj]; rfl
theorem cell1 (h : FlRaw w L pv s pc node ahd) : w.cell? ⟨L.lb, 1, none⟩ = some pv := by rw [blk_cell h.obj]; rfl
theorem cell2 (h : FlRaw w L pv s pc node ahd) : w.cell? ⟨L.lb, 2, none⟩ = some (.int .i64 L.a1) := by rw [blk_cell h.obj]; rfl
theorem cell3 (h : FlRaw w L pv s pc node ahd) : w.cell? ⟨L.lb, 3, none⟩ = some (.int .i64 L.a2) := by rw [blk_cell h.obj]; rfl
theorem cell4 (h : FlRaw w L pv s pc node ahd) : w.cell? ⟨L.lb, 4, none⟩ = some (.slice (some ⟨L.tb, 0, none⟩) s.n s.n) := by rw [blk_cell h.obj]; rfl
theorem frozen (h : FlRaw w L pv s pc node ahd) (k : Nat) : w.frozen? ⟨L.lb, k, none⟩ = false := blk_frozen h.obj k
theorem tk0 (h : FlRaw w L pv s pc node ahd) {k : Nat} (hk : k < s.n) : w.cell? ⟨L.tb, k * 3, none⟩ = some (.int .i64 (pc k)) := by
  rw [blk_cell h.tick, List.getElem?_toArray]
  exact tks_at s.n pc node ahd hk (j := 0) (by decide)
theorem tk1 (h : FlRaw w L pv s pc node ahd) {k : Nat} (hk : k < s.n) : w.cell? ⟨L.tb, k * 3 + 1, none⟩ = some (.int .u32 (node k)) := by
  rw [blk_cell h.tick, List.getElem?_toArray]
  exact tks_at s.n pc node ahd hk (j := 1) (by decide)
theorem tk2 (h : FlRaw w L pv s pc node ahd) {k : Nat} (hk : k < s.n) : w.cell? ⟨L.tb, k * 3 + 2, none⟩ = some (.int .u32 (ahd k)) := by
  rw [blk_cell h.tick, List.getElem?_toArray]
  exact tks_at s.n pc node ahd hk (j := 2) (by decide)
theorem tkz (h : FlRaw w L pv s pc node ahd) (k : Nat) : w.frozen? ⟨L.tb, k, none⟩ = false := blk_frozen h.tick k

/-- a cell of the places turns -/
theorem tset (h : FlRaw w L pv s pc node ahd) (j : Nat) (v : Value) {pc' node' ahd' : Nat → Int} (hs : (tks s.n pc node ahd).set j v = tks s.n pc' node' ahd') (hr : ∀ k, (pc' k = 0 ∨ pc' k = 1 ∨ pc' k = 2) ∧ (0 ≤ node' k ∧ node' k < 4294967296) ∧ 0 ≤ ahd' k ∧ ahd' k < 4294967296) :
    FlRaw (w.setCell ⟨L.tb, j, none⟩ v) L pv s pc' node' ahd' ∧ Wrote (One L.tb) w (w.setCell ⟨L.tb, j, none⟩ v) := by
  have hW : Wrote (One L.tb) w (w.setCell ⟨L.tb, j, none⟩ v) := (Wrote.refl _ w).setCell _ _ fun _ => rfl
  refine ⟨⟨(hW.block _ (blk_lt h.obj) h.ne.2.1).trans h.obj, h.seat.wrote hW h.ne.2.2.1 h.ne.2.2.2.1, ?_, h.ne, hr, h.adr⟩, hW⟩
  rw [blk_setCell h.tick, List.setIfInBounds_toArray, hs]
theorem tset0 (h : FlRaw w L pv s pc node ahd) (k : Nat) (x : Int) (hx : x = 0 ∨ x = 1 ∨ x = 2) :
    FlRaw (w.setCell ⟨L.tb, k * 3, none⟩ (.int .i64 x)) L pv s (upd pc k x) node ahd ∧ Wrote (One L.tb) w (w.setCell ⟨L.tb, k * 3, none⟩ (.int .i64 x)) :=
  h.tset _ _ (tks_set0 _ _ _ _ k x) fun j => by
    by_cases e : j = k
    · subst e; rw [upd_same]; exact ⟨hx, (h.rng j).2⟩
    · rw [upd_other _ _ e]; exact h.rng j
theorem tset1 (h : FlRaw w L pv s pc node ahd) (k : Nat) (x : Int) (hx : 0 ≤ x ∧ x < 4294967296) :
    FlRaw (w.setCell ⟨L.tb, k * 3 + 1, none⟩ (.int .u32 x)) L pv s pc (upd node k x) ahd ∧ Wrote (One L.tb) w (w.setCell ⟨L.tb, k * 3 + 1, none⟩ (.int .u32 x)) :=
  h.tset _ _ (tks_set1 _ _ _ _ k x) fun j => by
    by_cases e : j = k
    · subst e; rw [upd_same]; exact ⟨(h.rng j).1, hx, (h.rng j).2.2⟩
    · rw [upd_other _ _ e]; exact h.rng j
theorem tset2 (h : FlRaw w L pv s pc node ahd) (k : Nat) (x : Int) (hx : 0 ≤ x ∧ x < 4294967296) :
    FlRaw (w.setCell ⟨L.tb, k * 3 + 2, none⟩ (.int .u32 x)) L pv s pc node (upd ahd k x) ∧ Wrote (One L.tb) w (w.setCell ⟨L.tb, k * 3 + 2, none⟩ (.int .u32 x)) :=
  h.tset _ _ (tks_set2 _ _ _ _ k x) fun j => by
    by_cases e : j = k
    · subst e; rw [upd_same]; exact ⟨(h.rng j).1, (h.rng j).2.1, hx⟩
    · rw [upd_other _ _ e]; exact h.rng j
/-- it is used over a port -/
theorem use (h : FlRaw w L pv s pc node ahd) (v : Value) : FlRaw (w.setCell ⟨L.lb, 1, none⟩ v) L v s pc node ahd := by
  have hW : Wrote (One L.lb) w (w.setCell ⟨L.lb, 1, none⟩ v) := (Wrote.refl _ w).setCell _ _ fun _ => rfl
  refine ⟨?_, h.seat.wrote hW (fun e => h.ne.2.2.2.2 e.symm) (fun e => h.ne.1 e.symm), (hW.block _ (blk_lt h.tick) (fun e => h.ne.2.1 e.symm)).trans h.tick, h.ne, h.rng, h.adr⟩
  rw [blk_setCell h.obj]
  rfl
theorem place (h : FlRaw w L pv s pc node ahd) (q : Place) (hs : List Int) : FlRaw w { L with q := q, hs := hs } pv s pc node ahd := ⟨h.obj, h.seat, h.tick, h.ne, h.rng, h.adr⟩
end FlRaw

abbrev RawF (w : World) (L : Lp) (pv : Value) (f : FL) : Prop := FlRaw w L pv f.s f.pc f.node f.ahd
/-- a lock that is used over its port -/
structure LkAt (w : World) (L : Lp) (f : FL) : Prop where
  raw : FlRaw w L (.pointer (some ⟨L.q.p, 0, none⟩)) f.s f.pc f.node f.ahd
  port : PortAt w L.q L.hs f.ps
  far : L.lb < L.q.k0 ∧ L.p < L.q.k0 ∧ L.b < L.q.k0 ∧ L.tb < L.q.k0
  top : L.q.k3 ≤ w.heap.size
/-- the blocks that a call of it may turn -/
def LF (L : Lp) (k : Nat) : Prop := k = L.b ∨ k = L.tb ∨ Rng L.q.k0 L.q.k3 k

namespace LkAt
variable {w w' : World} {L : Lp} {f : FL}
theorem wrote {S : Nat → Prop} (h : LkAt w L f) (k : Wrote S w w') (h1 : ¬ S L.lb) (h2 : ¬ S L.p) (h3 : ¬ S L.b) (h4 : ¬ S L.tb) (h5 : ∀ b, L.q.k0 ≤ b → b < L.q.k3 → ¬ S b) : LkAt w' L f :=
  ⟨h.raw.wrote k h1 h2 h3 h4, h.port.wrote k h5, h.far, Nat.le_trans h.top k.size⟩
theorem after (h : LkAt w L f) (k : Wrote Nil w w') : LkAt w' L f := h.wrote k id id id id fun _ _ _ => id
theorem seats {s' : SS} (h : LkAt w L f) (hS : SeatAt w' L.p L.b s') (hn : s'.n = f.s.n) (k : Wrote (One L.b) w w') : LkAt w' L { f with s := s' } :=
  ⟨h.raw.seats hS hn k, h.port.wrote k fun b b1 _ e => by have := h.far.2.2.1; cases e; omega, h.far, Nat.le_trans h.top k.size⟩
theorem ports {ps' : PSta} (h : LkAt w L f) (hP : PortAt w' L.q L.hs ps') (k : Wrote (Rng L.q.k0 L.q.k3) w w') : LkAt w' L { f with ps := ps' } :=
  ⟨h.raw.wrote k (fun e => by have := h.far.1; unfold Rng at e; omega) (fun e => by have := h.far.2.1; unfold Rng at e; omega) (fun e => by have := h.far.2.2.1; unfold Rng at e; omega) (fun e => by have := h.far.2.2.2; unfold Rng at e; omega), hP, h.far, Nat.le_trans h.top k.size⟩
theorem turns (h : LkAt w L f) {pc' node' ahd' : Nat → Int} (k : FlRaw w' L (.pointer (some ⟨L.q.p, 0, none⟩)) f.s pc' node' ahd' ∧ Wrote (One L.tb) w w') :
    LkAt w' L { f with pc := pc', node := node', ahd := ahd' } ∧ Wrote (One L.tb) w w' :=
  ⟨⟨k.1, h.port.wrote k.2 fun b b1 _ e => by have := h.far.2.2.2; cases e; omega, h.far, Nat.le_trans h.top k.2.size⟩, k.2⟩
/-- its step -/
theorem tick0 (h : LkAt w L f) (k : Nat) (x : Int) (hx : x = 0 ∨ x = 1 ∨ x = 2) :
    LkAt (w.setCell ⟨L.tb, k * 3, none⟩ (.int .i64 x)) L { f with pc := upd f.pc k x } ∧ Wrote (One L.tb) w (w.setCell ⟨L.tb, k * 3, none⟩ (.int .i64 x)) := h.turns (h.raw.tset0 k x hx)
/-- the node ahead, and its step -/
theorem tick20 (h : LkAt w L f) (k : Nat) (x y : Int) (hx : x = 0 ∨ x = 1 ∨ x = 2) (hy : 0 ≤ y ∧ y < 4294967296) :
    LkAt ((w.setCell ⟨L.tb, k * 3 + 2, none⟩ (.int .u32 y)).setCell ⟨L.tb, k * 3, none⟩ (.int .i64 x)) L { f with pc := upd f.pc k x, ahd := upd f.ahd k y } ∧ Wrote (One L.tb) w ((w.setCell ⟨L.tb, k * 3 + 2, none⟩ (.int .u32 y)).setCell ⟨L.tb, k * 3, none⟩ (.int .i64 x)) := by
  obtain ⟨h1, k1⟩ := h.raw.tset2 k y hy
  obtain ⟨h2, k2⟩ := h1.tset0 k x hx
  exact h.turns ⟨h2, k1.trans k2 fun _ _ e => e⟩
/-- all of its place -/
theorem tick3 (h : LkAt w L f) (k : Nat) (x y z : Int) (hx : x = 0 ∨ x = 1 ∨ x = 2) (hy : 0 ≤ y ∧ y < 4294967296) (hz : 0 ≤ z ∧ z < 4294967296) :
    LkAt (((w.setCell ⟨L.tb, k * 3, none⟩ (.int .i64 x)).setCell ⟨L.tb, k * 3 + 1, none⟩ (.int .u32 y)).setCell ⟨L.tb, k * 3 + 2, none⟩ (.int .u32 z)) L { f with pc := upd f.pc k x, node := upd f.node k y, ahd := upd f.ahd k z } ∧ Wrote (One L.tb) w (((w.setCell ⟨L.tb, k * 3, none⟩ (.int .i64 x)).setCell ⟨L.tb, k * 3 + 1, none⟩ (.int .u32 y)).setCell ⟨L.tb, k * 3 + 2, none⟩ (.int .u32 z)) := by
  obtain ⟨h1, k1⟩ := h.raw.tset0 k x hx
  obtain ⟨h2, k2⟩ := h1.tset1 k y hy
  obtain ⟨h3, k3⟩ := h2.tset2 k z hz
  exact h.turns ⟨h3, (k1.trans k2 fun _ _ e => e).trans k3 fun _ _ e => e⟩
theorem wf (h : LkAt w L f) (j : Int) : 0 ≤ loadI f.ps.ws j ∧ loadI f.ps.ws j < 4294967296 := h.port.mem.load_rng j
theorem tell (h : LkAt w L f) (t K a : Int) : 0 ≤ tellS f.ps t K a ∧ tellS f.ps t K a < 4294967296 := by
  unfold tellS tellI
  repeat' split
  · exact h.wf a
  all_goals omega
end LkAt

/-- behind a call: what it told, what is there now, what it may have turned -/
def LkPost (w : World) (L : Lp) (f : FL) (v : Value) (e : Ending) (w' : World) : Prop := e = .returned v ∧ LkAt w' L f ∧ Wrote (LF L) w w'
theorem lf_b {w w' : World} {L : Lp} (k : Wrote (One L.b) w w') : Wrote (LF L) w w' := k.mono fun _ _ e => .inl e
theorem lf_t {w w' : World} {L : Lp} (k : Wrote (One L.tb) w w') : Wrote (LF L) w w' := k.mono fun _ _ e => .inr (.inl e)
theorem lf_q {w w' : World} {L : Lp} (k : Wrote (Rng L.q.k0 L.q.k3) w w') : Wrote (LF L) w w' := k.mono fun _ _ e => .inr (.inr e)
theorem lf_nil {w w' : World} {L : Lp} (k : Wrote Nil w w') : Wrote (LF L) w w' := k.mono fun _ _ e => e.elim
theorem lf_trans {w w' w'' : World} {L : Lp} (h : Wrote (LF L) w w') (k : Wrote (LF L) w' w'') : Wrote (LF L) w w'' := h.trans k fun _ _ e => e
theorem LkAt.lf_lt {w : World} {L : Lp} {f : FL} (h : LkAt w L f) {k : Nat} (hk : LF L k) : k < w.heap.size := by
  rcases hk with rfl | rfl | hk
  · exact blk_lt h.raw.seat.ctx
  · exact blk_lt h.raw.tick
  · exact Nat.lt_of_lt_of_le hk.2 h.top

/-! ### a result that is a struct: its block -/
def didC (d : Dd) : Array Value := #[.int .i64 d.ev, .bool d.enq, .bool d.arr, .bool d.lead]
theorem didC_no : didC Dd.no = #[.int .i64 0, .bool false, .bool false, .bool false] := rfl
/-- behind a call's first step: its result's block B was laid, then what is said came -/
structure Fr (w : World) (B : Nat) (Y : World) (L : Lp) (f : FL) : Prop where
  lk : LkAt Y L f
  wr : Wrote (LF L) w Y
  res : Y.heap[B]? = some (.cells (didC Dd.no) 164 (0, 0))
  new : w.heap.size ≤ B
namespace Fr
variable {w X Y : World} {L : Lp} {f f' : FL} {B : Nat}
theorem start (h : LkAt w L f) : Fr w w.heap.size (w.alloc (.cells #[.int .i64 0, .bool false, .bool false, .bool false] 164)) L f :=
  ⟨h.after ((Wrote.refl _ w).alloc _), (Wrote.refl _ w).alloc _, Go.Deep.blk_alloc_new w _, Nat.le_refl _⟩
theorem after (h : Fr w B X L f) (k : Wrote Nil X Y) : Fr w B Y L f := ⟨h.lk.after k, h.wr.trans k fun _ _ e => e.elim, (k.block _ (blk_lt h.res) id).trans h.res, h.new⟩
theorem drew (h : Fr w B X L f) : Fr w B X.drew L f := h.after ((Wrote.refl _ X).drew)
theorem call {f0 : FL} (h0 : LkAt w L f') (h : Fr w B X L f) (hl : LkAt Y L f0) (k : Wrote (LF L) X Y) : Fr w B Y L f0 :=
  ⟨hl, h.wr.trans k fun _ _ e => e, (k.block _ (blk_lt h.res) (fun e => by have := h0.lf_lt e; have := h.new; omega)).trans h.res, h.new⟩
theorem cell (h : Fr w B X L f) : X.cell? ⟨B, 0, none⟩ = some (.int .i64 0) ∧ X.cell? ⟨B, 1, none⟩ = some (.bool false) ∧ X.cell? ⟨B, 2, none⟩ = some (.bool false) ∧ X.cell? ⟨B, 3, none⟩ = some (.bool false) := by
  rw [blk_cell h.res, blk_cell h.res, blk_cell h.res, blk_cell h.res]; exact ⟨rfl, rfl, rfl, rfl⟩
theorem frz (h : Fr w B X L f) : X.frozen? ⟨B, 0, none⟩ = false ∧ X.frozen? ⟨B, 1, none⟩ = false ∧ X.frozen? ⟨B, 2, none⟩ = false ∧ X.frozen? ⟨B, 3, none⟩ = false :=
  ⟨blk_frozen h.res 0, blk_frozen h.res 1, blk_frozen h.res 2, blk_frozen h.res 3⟩
end Fr
/-- the four cells of a struct stored -/
theorem set4 {Y : World} {B : Nat} {t : TypeId} {cs : Array Value} (h : Y.heap[B]? = some (.cells cs t (0, 0))) (h4 : cs.size = 4) (x0 x1 x2 x3 : Value) :
    ((((Y.setCell ⟨B, 0, none⟩ x0).setCell ⟨B, 1, none⟩ x1).setCell ⟨B, 2, none⟩ x2).setCell ⟨B, 3, none⟩ x3).heap[B]? = some (.cells #[x0, x1, x2, x3] t (0, 0)) := by
  rw [blk_setCell (blk_setCell (blk_setCell (blk_setCell h 0 x0) 1 x1) 2 x2) 3 x3]
  obtain ⟨l⟩ := cs
  match l, h4 with
  | [a, b, c, d], _ => rfl
theorem wrote4 (Y : World) (B : Nat) (x0 x1 x2 x3 : Value) : Wrote (One B) Y ((((Y.setCell ⟨B, 0, none⟩ x0).setCell ⟨B, 1, none⟩ x1).setCell ⟨B, 2, none⟩ x2).setCell ⟨B, 3, none⟩ x3) :=
  ((((Wrote.refl (One B) Y).setCell ⟨B, 0, none⟩ x0 fun _ => rfl).setCell ⟨B, 1, none⟩ x1 fun _ => rfl).setCell ⟨B, 2, none⟩ x2 fun _ => rfl).setCell ⟨B, 3, none⟩ x3 fun _ => rfl
/-- the end of a call whose result is told -/
theorem Fr.told {w Y : World} {L : Lp} {f f0 : FL} {B : Nat} (h0 : LkAt w L f0) (h : Fr w B Y L f) (d : Dd) :
    LkPost w L f d.val (.returned d.val) ((((Y.setCell ⟨B, 0, none⟩ (.int .i64 d.ev)).setCell ⟨B, 1, none⟩ (.bool d.enq)).setCell ⟨B, 2, none⟩ (.bool d.arr)).setCell ⟨B, 3, none⟩ (.bool d.lead)) := by
  have k := wrote4 Y B (.int .i64 d.ev) (.bool d.enq) (.bool d.arr) (.bool d.lead)
  have hB : ∀ j, j < w.heap.size → ¬ One B j := fun j hj e => by have := h.new; cases e; omega
  have hp := blk_lt h0.raw.seat.obj
  refine ⟨rfl, h.lk.wrote k (hB _ (blk_lt h0.raw.obj)) (hB _ (blk_lt h0.raw.seat.obj)) (hB _ (blk_lt h0.raw.seat.ctx)) (hB _ (blk_lt h0.raw.tick)) (fun b _ b2 => hB b (Nat.lt_of_lt_of_le b2 h0.top)), ?_⟩
  exact h.wr.trans k fun b hb e => (hB b hb e).elim
theorem i_did : (Tryz.prog.info? 164).map (·.size) = some 4 := by kernel_rfl
end Go.Proofs.YteokghghpmppnaaGreatDoor.Kc
