/- A lock with slots as a plain thing: its seats, each context's step and slot, the state of its port; how it lies in the heap, and what stores do to it; no walk. -/
import Derived.Test.YtiddapikahchkaaSeatNew
import Derived.Test.YtiddapikahchkaaPlanPort
import Derived.Test.YtiddapikahchkaaPack
import Derived.Test.YtiddapikahchkaaLockVia
namespace Go.Proofs.Ytiddapikahchkaa
open Go.RowKit
set_option linter.unusedVariables false
set_option maxRecDepth 100000

/-! ### plain -/
/-- what a step did -/
structure Dd where
  ev : Int
  enq : Bool
  arr : Bool
  lead : Bool
def Dd.no : Dd := ⟨0, false, false, false⟩
def Dd.val (d : Dd) : Value := .agg #[.int .i64 d.ev, .bool d.enq, .bool d.arr, .bool d.lead]
def b2i (b : Bool) : Int := if b then 1 else 0
def Dd.rval (d : Dd) : Value := .agg #[.int .i64 d.ev, .int .i64 (b2i d.enq), .int .i64 (b2i d.arr), .int .i64 (b2i d.lead)]

/-- a lock with its port: its seats, how many slots there are, each context's next step and its slot, the port -/
structure FL where
  s : SS
  sz : Nat
  pc : Nat → Int
  own : Nat → Int
  ps : PSta
/-- where a lock lies: its struct, its seats' struct and contexts, its places; its words' addresses; its port's place and homes -/
structure Lp where
  lb : Nat
  p : Nat
  b : Nat
  tb : Nat
  a1 : Int
  a2 : Int
  q : Place
  hs : List Int

def FL.acq (f : FL) (L : Lp) (t : Nat) (u : Int) : FL :=
  if f.pc t = 0 then { f with pc := upd f.pc t 1, own := upd f.own t (tellS f.ps u 5 L.a1 % f.sz), ps := doS f.ps u 5 L.a1 0 1 }
  else if f.pc t = 1 then (if tellS f.ps u 1 (L.a2 + f.own t) = 0 then { f with ps := doS f.ps u 1 (L.a2 + f.own t) 0 0 } else { f with pc := upd f.pc t 2, ps := doS f.ps u 1 (L.a2 + f.own t) 0 0 })
  else { f with ps := doS f.ps u 2 (L.a2 + f.own t) 0 0 }
def FL.acqD (f : FL) (L : Lp) (t : Nat) (u : Int) : Dd := if f.pc t = 0 then ⟨0, true, false, false⟩ else if f.pc t = 1 then Dd.no else ⟨1, false, false, false⟩
def FL.rel (f : FL) (L : Lp) (t : Nat) (u : Int) : FL := { f with pc := upd f.pc t 0, own := upd f.own t 0, ps := doS f.ps u 2 (L.a2 + (f.own t + 1) % f.sz) 0 1 }
/-- behind the access of a step, its event still to come -/
def FL.mid (f : FL) (L : Lp) (t u : Int) : FL := if 0 ≤ t ∧ t < f.s.n then (if f.s.st t.toNat = 1 then f.acq L t.toNat u else if f.s.st t.toNat = 3 then f.rel L t.toNat u else f) else f
def FL.did (f : FL) (L : Lp) (t u : Int) : Dd := if 0 ≤ t ∧ t < f.s.n then (if f.s.st t.toNat = 1 then f.acqD L t.toNat u else if f.s.st t.toNat = 3 then ⟨3, false, false, false⟩ else Dd.no) else Dd.no
def FL.step (f : FL) (L : Lp) (t u : Int) : FL := { f.mid L t u with s := f.s.fin t (f.did L t u).ev }
def FL.lock (f : FL) (t d : Int) : FL := { f with s := f.s.lock t d }
def FL.turn (f : FL) (t x : Int) : FL := { f with s := f.s.turn t x }
def FL.probe (f : FL) (t : Int) : FL := { f with s := f.s.probe t }

theorem FL.acq_s (f : FL) (L : Lp) (t : Nat) (u : Int) : (f.acq L t u).s = f.s := by unfold FL.acq; repeat' split <;> try rfl
theorem FL.mid_s (f : FL) (L : Lp) (t u : Int) : (f.mid L t u).s = f.s := by
  unfold FL.mid
  repeat' split
  · exact f.acq_s L _ u
  all_goals rfl

/-! ### in the heap -/
/-- the two cells of a place -/
def tkC (pc own : Nat → Int) (t : Nat) : List Value := [.int .i64 (pc t), .int .i64 (own t)]
theorem tkC_len (pc own : Nat → Int) : ∀ x, (tkC pc own x).length = 2 := fun _ => rfl
def tks (n : Nat) (pc own : Nat → Int) : List Value := (List.range n).flatMap (tkC pc own)
theorem tks_at (n : Nat) (pc own : Nat → Int) {k : Nat} (hk : k < n) {j : Nat} (hj : j < 2) : (tks n pc own)[k * 2 + j]? = (tkC pc own k)[j]? := flat_at' (tkC_len pc own) _ (by rw [List.getElem?_range hk]) hj

/-- nobody asks who is behind -/
def SS.Np (s : SS) : Prop := s.probed = false ∧ ∀ k, s.st k ≠ 4
/-- as many contexts, and still nobody asks -/
def SS.Ke (s s' : SS) : Prop := s'.n = s.n ∧ (s.Np → s'.Np)
theorem SS.set_np {s : SS} (h : s.Np) (k : Nat) (x d : Int) (hx : x ≠ 4) : (s.set k x d).Np := by
  refine ⟨h.1, fun j => ?_⟩
  show upd s.st k x j ≠ 4
  by_cases e : j = k
  · subst e; rw [upd_same]; exact hx
  · rw [upd_other _ _ e]; exact h.2 j
theorem SS.lock_k (s : SS) (t d : Int) : s.Ke (s.lock t d) := by
  refine ⟨s.lock_n t d, fun h => ?_⟩
  unfold SS.lock
  split
  · exact SS.set_np h _ _ _ (by decide)
  · exact h
theorem SS.turn_k (s : SS) (t x : Int) (hx : x ≠ 4) : s.Ke (s.turn t x) := by
  refine ⟨s.turn_n t x, fun h => ?_⟩
  unfold SS.turn
  split
  · exact SS.set_np h _ _ _ hx
  · exact h
theorem SS.probe_k (s : SS) (t : Int) : s.Ke (s.probe t) := by
  refine ⟨s.probe_n t, fun h => ?_⟩
  unfold SS.probe
  rw [if_neg (by rw [h.1]; decide)]
  exact h
theorem SS.fin_k (s : SS) (t ev : Int) : s.Ke (s.fin t ev) := by
  refine ⟨s.fin_n t ev, fun h => ?_⟩
  unfold SS.fin
  split
  · rename_i y e
    refine SS.set_np h _ _ _ ?_
    unfold endO behindI at e
    repeat' split at e
    all_goals first | (cases e; decide) | cases e
  · exact h

structure FlRaw (w : World) (L : Lp) (pv : Value) (s : SS) (sz : Nat) (pc own : Nat → Int) : Prop where
  obj : w.heap[L.lb]? = some (.cells #[.pointer (some ⟨L.p, 0, none⟩), pv, .int .i64 L.a1, .int .i64 L.a2, .int .i64 (sz : Nat), .slice (some ⟨L.tb, 0, none⟩) s.n s.n] 60 (0, 0))
  seat : SeatAt w L.p L.b s
  tick : w.heap[L.tb]? = some (.cells (tks s.n pc own).toArray 137 (0, 0))
  ne : L.lb ≠ L.b ∧ L.lb ≠ L.tb ∧ L.p ≠ L.tb ∧ L.b ≠ L.tb ∧ L.lb ≠ L.p
  rng : ∀ k, (pc k = 0 ∨ pc k = 1 ∨ pc k = 2) ∧ 0 ≤ own k ∧ own k < sz
  siz : sizeB sz = true
  adr : 0 ≤ L.a2 ∧ L.a2 ≤ 2000000
  np : s.Np

namespace FlRaw
variable {w w' : World} {L : Lp} {pv : Value} {s : SS} {sz : Nat} {pc own : Nat → Int}
theorem wrote {S : Nat → Prop} (h : FlRaw w L pv s sz pc own) (k : Wrote S w w') (h1 : ¬ S L.lb) (h2 : ¬ S L.p) (h3 : ¬ S L.b) (h4 : ¬ S L.tb) : FlRaw w' L pv s sz pc own :=
  ⟨(k.block _ (blk_lt h.obj) h1).trans h.obj, h.seat.wrote k h2 h3, (k.block _ (blk_lt h.tick) h4).trans h.tick, h.ne, h.rng, h.siz, h.adr, h.np⟩
theorem after (h : FlRaw w L pv s sz pc own) (k : Wrote Nil w w') : FlRaw w' L pv s sz pc own := h.wrote k id id id id
theorem seats {s' : SS} (h : FlRaw w L pv s sz pc own) (hS : SeatAt w' L.p L.b s') (hk : s.Ke s') (k : Wrote (One L.b) w w') : FlRaw w' L pv s' sz pc own := by
  have hn := hk.1
  refine ⟨?_, hS, ?_, h.ne, h.rng, h.siz, h.adr, hk.2 h.np⟩
  · rw [hn]; exact (k.block _ (blk_lt h.obj) h.ne.1).trans h.obj
  · rw [hn]; exact (k.block _ (blk_lt h.tick) (fun e => h.ne.2.2.2.1 e.symm)).trans h.tick
theorem cell0 (h : FlRaw w L pv s sz pc own) : w.cell? ⟨L.lb, 0, none⟩ = some (.pointer (some ⟨L.p, 0, none⟩)) := by rw [blk_cell h.obj]; rfl
theorem cell1 (h : FlRaw w L pv s sz pc own) : w.cell? ⟨L.lb, 1, none⟩ = some pv := by rw [blk_cell h.obj]; rfl
theorem cell2 (h : FlRaw w L pv s sz pc own) : w.cell? ⟨L.lb, 2, none⟩ = some (.int .i64 L.a1) := by rw [blk_cell h.obj]; rfl
theorem cell3 (h : FlRaw w L pv s sz pc own) : w.cell? ⟨L.lb, 3, none⟩ = some (.int .i64 L.a2) := by rw [blk_cell h.obj]; rfl
theorem cell4 (h : FlRaw w L pv s sz pc own) : w.cell? ⟨L.lb, 4, none⟩ = some (.int .i64 (sz : Nat)) := by rw [blk_cell h.obj]; rfl
theorem cell5 (h : FlRaw w L pv s sz pc own) : w.cell? ⟨L.lb, 5, none⟩ = some (.slice (some ⟨L.tb, 0, none⟩) s.n s.n) := by rw [blk_cell h.obj]; rfl
theorem frozen (h : FlRaw w L pv s sz pc own) (k : Nat) : w.frozen? ⟨L.lb, k, none⟩ = false := blk_frozen h.obj k
theorem tk0 (h : FlRaw w L pv s sz pc own) {k : Nat} (hk : k < s.n) : w.cell? ⟨L.tb, k * 2, none⟩ = some (.int .i64 (pc k)) := by
  rw [blk_cell h.tick, List.getElem?_toArray]
  exact tks_at s.n pc own hk (j := 0) (by decide)
theorem tk1 (h : FlRaw w L pv s sz pc own) {k : Nat} (hk : k < s.n) : w.cell? ⟨L.tb, k * 2 + 1, none⟩ = some (.int .i64 (own k)) := by
  rw [blk_cell h.tick, List.getElem?_toArray]
  exact tks_at s.n pc own hk (j := 1) (by decide)
theorem tkz (h : FlRaw w L pv s sz pc own) (k : Nat) : w.frozen? ⟨L.tb, k, none⟩ = false := blk_frozen h.tick k

theorem tset0 (h : FlRaw w L pv s sz pc own) {k : Nat} (hk : k < s.n) (x : Int) (hx : x = 0 ∨ x = 1 ∨ x = 2) :
    FlRaw (w.setCell ⟨L.tb, k * 2, none⟩ (.int .i64 x)) L pv s sz (upd pc k x) own ∧ Wrote (One L.tb) w (w.setCell ⟨L.tb, k * 2, none⟩ (.int .i64 x)) := by
  have hW : Wrote (One L.tb) w (w.setCell ⟨L.tb, k * 2, none⟩ (.int .i64 x)) := (Wrote.refl _ w).setCell _ _ fun _ => rfl
  refine ⟨⟨(hW.block _ (blk_lt h.obj) h.ne.2.1).trans h.obj, h.seat.wrote hW h.ne.2.2.1 h.ne.2.2.2.1, ?_, h.ne, fun j => ?_, h.siz, h.adr, h.np⟩, hW⟩
  · rw [blk_setCell h.tick, List.setIfInBounds_toArray]
    congr 3
    refine flat_set (tkC_len pc own) (tkC_len _ _) _ k 0 (by decide) _ fun i t ht l hl => ?_
    obtain ⟨_, rfl⟩ : i < s.n ∧ t = i := by
      have hi : i < s.n := by have := (List.getElem?_eq_some_iff.1 ht).1; simpa using this
      rw [List.getElem?_range hi] at ht
      exact ⟨hi, by simpa using ht.symm⟩
    have : l = 0 ∨ l = 1 := by omega
    rcases this with rfl | rfl
    · by_cases e : t = k
      · subst e; simp [tkC, upd_same]
      · simp [tkC, upd_other _ _ e, e]
    · by_cases e : t = k
      · subst e; simp [tkC]
      · simp [tkC, e]
  · by_cases e : j = k
    · subst e; rw [upd_same]; exact ⟨hx, (h.rng j).2⟩
    · rw [upd_other _ _ e]; exact h.rng j
theorem tset1 (h : FlRaw w L pv s sz pc own) {k : Nat} (hk : k < s.n) (y : Int) (hy : 0 ≤ y ∧ y < sz) :
    FlRaw (w.setCell ⟨L.tb, k * 2 + 1, none⟩ (.int .i64 y)) L pv s sz pc (upd own k y) ∧ Wrote (One L.tb) w (w.setCell ⟨L.tb, k * 2 + 1, none⟩ (.int .i64 y)) := by
  have hW : Wrote (One L.tb) w (w.setCell ⟨L.tb, k * 2 + 1, none⟩ (.int .i64 y)) := (Wrote.refl _ w).setCell _ _ fun _ => rfl
  refine ⟨⟨(hW.block _ (blk_lt h.obj) h.ne.2.1).trans h.obj, h.seat.wrote hW h.ne.2.2.1 h.ne.2.2.2.1, ?_, h.ne, fun j => ?_, h.siz, h.adr, h.np⟩, hW⟩
  rotate_left
  · by_cases e : j = k
    · subst e; rw [upd_same]; exact ⟨(h.rng j).1, hy⟩
    · rw [upd_other _ _ e]; exact h.rng j
  rw [blk_setCell h.tick, List.setIfInBounds_toArray]
  congr 3
  refine flat_set (tkC_len pc own) (tkC_len _ _) _ k 1 (by decide) _ fun i t ht l hl => ?_
  obtain ⟨_, rfl⟩ : i < s.n ∧ t = i := by
    have hi : i < s.n := by have := (List.getElem?_eq_some_iff.1 ht).1; simpa using this
    rw [List.getElem?_range hi] at ht
    exact ⟨hi, by simpa using ht.symm⟩
  have : l = 0 ∨ l = 1 := by omega
  rcases this with rfl | rfl
  · by_cases e : t = k
    · subst e; simp [tkC]
    · simp [tkC, e]
  · by_cases e : t = k
    · subst e; simp [tkC, upd_same]
    · simp [tkC, upd_other _ _ e, e]
theorem tset2 (h : FlRaw w L pv s sz pc own) {k : Nat} (hk : k < s.n) (x y : Int) (hx : x = 0 ∨ x = 1 ∨ x = 2) (hy : 0 ≤ y ∧ y < sz) :
    FlRaw ((w.setCell ⟨L.tb, k * 2, none⟩ (.int .i64 x)).setCell ⟨L.tb, k * 2 + 1, none⟩ (.int .i64 y)) L pv s sz (upd pc k x) (upd own k y) ∧ Wrote (One L.tb) w ((w.setCell ⟨L.tb, k * 2, none⟩ (.int .i64 x)).setCell ⟨L.tb, k * 2 + 1, none⟩ (.int .i64 y)) := by
  obtain ⟨h1, hW1⟩ := h.tset0 hk x hx
  obtain ⟨h2, hW2⟩ := h1.tset1 hk y hy
  exact ⟨h2, hW1.trans hW2 fun _ _ x => x⟩
/-- it is used over a port -/
theorem use (h : FlRaw w L pv s sz pc own) (v : Value) : FlRaw (w.setCell ⟨L.lb, 1, none⟩ v) L v s sz pc own := by
  have hW : Wrote (One L.lb) w (w.setCell ⟨L.lb, 1, none⟩ v) := (Wrote.refl _ w).setCell _ _ fun _ => rfl
  refine ⟨?_, h.seat.wrote hW (fun e => h.ne.2.2.2.2 e.symm) (fun e => h.ne.1 e.symm), (hW.block _ (blk_lt h.tick) (fun e => h.ne.2.1 e.symm)).trans h.tick, h.ne, h.rng, h.siz, h.adr, h.np⟩
  rw [blk_setCell h.obj]
  rfl
theorem place (h : FlRaw w L pv s sz pc own) (q : Place) (hs : List Int) : FlRaw w { L with q := q, hs := hs } pv s sz pc own := ⟨h.obj, h.seat, h.tick, h.ne, h.rng, h.siz, h.adr, h.np⟩
theorem size_cases (h : FlRaw w L pv s sz pc own) : sz = 1 ∨ sz = 2 ∨ sz = 4 ∨ sz = 8 ∨ sz = 16 ∨ sz = 32 ∨ sz = 64 := by
  have := h.siz
  unfold sizeB at this
  have := of_decide_eq_true this
  omega
end FlRaw

abbrev RawF (w : World) (L : Lp) (pv : Value) (f : FL) : Prop := FlRaw w L pv f.s f.sz f.pc f.own
/-- a lock that is used over its port -/
structure LkAt (w : World) (L : Lp) (f : FL) : Prop where
  raw : FlRaw w L (.pointer (some ⟨L.q.p, 0, none⟩)) f.s f.sz f.pc f.own
  port : PortAt w L.q L.hs f.ps
  far : L.lb < L.q.k0 ∧ L.p < L.q.k0 ∧ L.b < L.q.k0 ∧ L.tb < L.q.k0
  top : L.q.k3 ≤ w.heap.size
/-- the blocks that a call of it may turn -/
def LF (L : Lp) (k : Nat) : Prop := k = L.b ∨ k = L.tb ∨ Rng L.q.k0 L.q.k3 k

namespace LkAt
variable {w w' : World} {L : Lp} {f : FL}
theorem wrote {S : Nat → Prop} (h : LkAt w L f) (k : Wrote S w w') (h1 : ¬ S L.lb) (h2 : ¬ S L.p) (h3 : ¬ S L.b) (h4 : ¬ S L.tb) (h5 : ∀ b, L.q.k0 ≤ b → b < L.q.k3 → ¬ S b) : LkAt w' L f :=
  ⟨h.raw.wrote k h1 h2 h3 h4, h.port.wrote k h5, h.far, Nat.le_trans h.top k.size⟩
theorem after (h : LkAt w L f) (k : Wrote Nil w w') : LkAt w' L f := h.wrote k id id id id fun _ _ _ => id
theorem seats {s' : SS} (h : LkAt w L f) (hS : SeatAt w' L.p L.b s') (hn : f.s.Ke s') (k : Wrote (One L.b) w w') : LkAt w' L { f with s := s' } :=
  ⟨h.raw.seats hS hn k, h.port.wrote k fun b b1 _ e => by have := h.far.2.2.1; cases e; omega, h.far, Nat.le_trans h.top k.size⟩
theorem ports {ps' : PSta} (h : LkAt w L f) (hP : PortAt w' L.q L.hs ps') (k : Wrote (Rng L.q.k0 L.q.k3) w w') : LkAt w' L { f with ps := ps' } :=
  ⟨h.raw.wrote k (fun e => by have := h.far.1; unfold Rng at e; omega) (fun e => by have := h.far.2.1; unfold Rng at e; omega) (fun e => by have := h.far.2.2.1; unfold Rng at e; omega) (fun e => by have := h.far.2.2.2; unfold Rng at e; omega), hP, h.far, Nat.le_trans h.top k.size⟩
theorem ticks (h : LkAt w L f) {k : Nat} (hk : k < f.s.n) (x y : Int) (hx : x = 0 ∨ x = 1 ∨ x = 2) (hy : 0 ≤ y ∧ y < f.sz) :
    LkAt ((w.setCell ⟨L.tb, k * 2, none⟩ (.int .i64 x)).setCell ⟨L.tb, k * 2 + 1, none⟩ (.int .i64 y)) L { f with pc := upd f.pc k x, own := upd f.own k y } ∧ Wrote (One L.tb) w ((w.setCell ⟨L.tb, k * 2, none⟩ (.int .i64 x)).setCell ⟨L.tb, k * 2 + 1, none⟩ (.int .i64 y)) := by
  obtain ⟨h1, hW⟩ := h.raw.tset2 hk x y hx hy
  exact ⟨⟨h1, h.port.wrote hW fun b b1 _ e => by have := h.far.2.2.2; cases e; omega, h.far, Nat.le_trans h.top hW.size⟩, hW⟩
theorem tick0 (h : LkAt w L f) {k : Nat} (hk : k < f.s.n) (x : Int) (hx : x = 0 ∨ x = 1 ∨ x = 2) :
    LkAt (w.setCell ⟨L.tb, k * 2, none⟩ (.int .i64 x)) L { f with pc := upd f.pc k x } ∧ Wrote (One L.tb) w (w.setCell ⟨L.tb, k * 2, none⟩ (.int .i64 x)) := by
  obtain ⟨h1, hW⟩ := h.raw.tset0 hk x hx
  exact ⟨⟨h1, h.port.wrote hW fun b b1 _ e => by have := h.far.2.2.2; cases e; omega, h.far, Nat.le_trans h.top hW.size⟩, hW⟩
theorem wf (h : LkAt w L f) (j : Int) : 0 ≤ loadI f.ps.ws j ∧ loadI f.ps.ws j < 4294967296 := h.port.mem.load_rng j
theorem tell (h : LkAt w L f) (t K a : Int) : 0 ≤ tellS f.ps t K a ∧ tellS f.ps t K a < 4294967296 := by
  unfold tellS tellI
  repeat' split
  · exact h.wf a
  all_goals omega
end LkAt

/-- behind a call: what it told, what is there now, what it may have turned -/
def LkPost (w : World) (L : Lp) (f : FL) (v : Value) (e : Ending) (w' : World) : Prop := e = .returned v ∧ LkAt w' L f ∧ Wrote (LF L) w w'
theorem lf_b {w w' : World} {L : Lp} (k : Wrote (One L.b) w w') : Wrote (LF L) w w' := k.mono fun _ _ e => .inl e
theorem lf_t {w w' : World} {L : Lp} (k : Wrote (One L.tb) w w') : Wrote (LF L) w w' := k.mono fun _ _ e => .inr (.inl e)
theorem lf_q {w w' : World} {L : Lp} (k : Wrote (Rng L.q.k0 L.q.k3) w w') : Wrote (LF L) w w' := k.mono fun _ _ e => .inr (.inr e)
theorem lf_nil {w w' : World} {L : Lp} (k : Wrote Nil w w') : Wrote (LF L) w w' := k.mono fun _ _ e => e.elim
theorem lf_trans {w w' w'' : World} {L : Lp} (h : Wrote (LF L) w w') (k : Wrote (LF L) w' w'') : Wrote (LF L) w w'' := h.trans k fun _ _ e => e
theorem LkAt.lf_lt {w : World} {L : Lp} {f : FL} (h : LkAt w L f) {k : Nat} (hk : LF L k) : k < w.heap.size := by
  rcases hk with rfl | rfl | hk
  · exact blk_lt h.raw.seat.ctx
  · exact blk_lt h.raw.tick
  · exact Nat.lt_of_lt_of_le hk.2 h.top

/-! ### a result that is a struct: its block -/
def didC (d : Dd) : Array Value := #[.int .i64 d.ev, .bool d.enq, .bool d.arr, .bool d.lead]
theorem didC_no : didC Dd.no = #[.int .i64 0, .bool false, .bool false, .bool false] := rfl
/-- behind a call's first step: its result's block B was laid, then what is said came -/
structure Fr (w : World) (B : Nat) (Y : World) (L : Lp) (f : FL) : Prop where
  lk : LkAt Y L f
  wr : Wrote (LF L) w Y
  res : Y.heap[B]? = some (.cells (didC Dd.no) 63 (0, 0))
  new : w.heap.size ≤ B
namespace Fr
variable {w X Y : World} {L : Lp} {f f' : FL} {B : Nat}
theorem start (h : LkAt w L f) : Fr w w.heap.size (w.alloc (.cells #[.int .i64 0, .bool false, .bool false, .bool false] 63)) L f :=
  ⟨h.after ((Wrote.refl _ w).alloc _), (Wrote.refl _ w).alloc _, Go.Deep.blk_alloc_new w _, Nat.le_refl _⟩
theorem after (h : Fr w B X L f) (k : Wrote Nil X Y) : Fr w B Y L f := ⟨h.lk.after k, h.wr.trans k fun _ _ e => e.elim, (k.block _ (blk_lt h.res) id).trans h.res, h.new⟩
theorem drew (h : Fr w B X L f) : Fr w B X.drew L f := h.after ((Wrote.refl _ X).drew)
theorem call {f0 : FL} (h0 : LkAt w L f') (h : Fr w B X L f) (hl : LkAt Y L f0) (k : Wrote (LF L) X Y) : Fr w B Y L f0 :=
  ⟨hl, h.wr.trans k fun _ _ e => e, (k.block _ (blk_lt h.res) (fun e => by have := h0.lf_lt e; have := h.new; omega)).trans h.res, h.new⟩
theorem cell (h : Fr w B X L f) : X.cell? ⟨B, 0, none⟩ = some (.int .i64 0) ∧ X.cell? ⟨B, 1, none⟩ = some (.bool false) ∧ X.cell? ⟨B, 2, none⟩ = some (.bool false) ∧ X.cell? ⟨B, 3, none⟩ = some (.bool false) := by
  rw [blk_cell h.res, blk_cell h.res, blk_cell h.res, blk_cell h.res]; exact ⟨rfl, rfl, rfl, rfl⟩
theorem frz (h : Fr w B X L f) : X.frozen? ⟨B, 0, none⟩ = false ∧ X.frozen? ⟨B, 1, none⟩ = false ∧ X.frozen? ⟨B, 2, none⟩ = false ∧ X.frozen? ⟨B, 3, none⟩ = false :=
  ⟨blk_frozen h.res 0, blk_frozen h.res 1, blk_frozen h.res 2, blk_frozen h.res 3⟩
end Fr
/-- the four cells of a struct stored -/
theorem set4 {Y : World} {B : Nat} {t : TypeId} {cs : Array Value} (h : Y.heap[B]? = some (.cells cs t (0, 0))) (h4 : cs.size = 4) (x0 x1 x2 x3 : Value) :
    ((((Y.setCell ⟨B, 0, none⟩ x0).setCell ⟨B, 1, none⟩ x1).setCell ⟨B, 2, none⟩ x2).setCell ⟨B, 3, none⟩ x3).heap[B]? = some (.cells #[x0, x1, x2, x3] t (0, 0)) := by
  rw [blk_setCell (blk_setCell (blk_setCell (blk_setCell h 0 x0) 1 x1) 2 x2) 3 x3]
  obtain ⟨l⟩ := cs
  match l, h4 with
  | [a, b, c, d], _ => rfl
theorem wrote4 (Y : World) (B : Nat) (x0 x1 x2 x3 : Value) : Wrote (One B) Y ((((Y.setCell ⟨B, 0, none⟩ x0).setCell ⟨B, 1, none⟩ x1).setCell ⟨B, 2, none⟩ x2).setCell ⟨B, 3, none⟩ x3) :=
  ((((Wrote.refl (One B) Y).setCell ⟨B, 0, none⟩ x0 fun _ => rfl).setCell ⟨B, 1, none⟩ x1 fun _ => rfl).setCell ⟨B, 2, none⟩ x2 fun _ => rfl).setCell ⟨B, 3, none⟩ x3 fun _ => rfl
/-- the end of a call whose result is told -/
theorem Fr.told {w Y : World} {L : Lp} {f f0 : FL} {B : Nat} (h0 : LkAt w L f0) (h : Fr w B Y L f) (d : Dd) :
    LkPost w L f d.val (.returned d.val) ((((Y.setCell ⟨B, 0, none⟩ (.int .i64 d.ev)).setCell ⟨B, 1, none⟩ (.bool d.enq)).setCell ⟨B, 2, none⟩ (.bool d.arr)).setCell ⟨B, 3, none⟩ (.bool d.lead)) := by
  have k := wrote4 Y B (.int .i64 d.ev) (.bool d.enq) (.bool d.arr) (.bool d.lead)
  have hB : ∀ j, j < w.heap.size → ¬ One B j := fun j hj e => by have := h.new; cases e; omega
  have hp := blk_lt h0.raw.seat.obj
  refine ⟨rfl, h.lk.wrote k (hB _ (blk_lt h0.raw.obj)) (hB _ (blk_lt h0.raw.seat.obj)) (hB _ (blk_lt h0.raw.seat.ctx)) (hB _ (blk_lt h0.raw.tick)) (fun b _ b2 => hB b (Nat.lt_of_lt_of_le b2 h0.top)), ?_⟩
  exact h.wr.trans k fun b hb e => (hB b hb e).elim
theorem i_did : (Try.prog.info? 63).map (·.size) = some 4 := by kernel_rfl
end Go.Proofs.Ytiddapikahchkaa
