/- A lock that was made behind a world: what its calls leave of all else. -/
import Derived.Test.YteokghghpmppnaaGreatDoorClhNew
namespace Go.Proofs.YteokghghpmppnaaGreatDoor.Kc
open Go.RowKit Go.BigFrame
set_option linter.unusedVariables false
set_option maxRecDepth 100000

/-- below a lock's port's end: all that its calls may turn -/
def Low (L : Lp) (k : Nat) : Prop := k < L.q.k3
theorem LkAt.low {w w' : World} {L : Lp} {f : FL} (h : LkAt w L f) (k : Wrote (LF L) w w') : Wrote (Low L) w w' := k.mono fun b _ e => by
  have h1 := h.far
  have h2 := h.port.place.le
  unfold Low
  rcases e with rfl | rfl | e
  · omega
  · omega
  · exact e.2
structure LkS (w0 w : World) (L : Lp) (f : FL) : Prop where
  lk : LkAt w L f
  low : w0.heap.size ≤ L.lb ∧ w0.heap.size ≤ L.p ∧ w0.heap.size ≤ L.b ∧ w0.heap.size ≤ L.tb ∧ w0.heap.size ≤ L.q.k0
  wr : Wrote Nil w0 w
namespace LkS
variable {w0 w w' : World} {L : Lp} {f f' : FL}
theorem after (h : LkS w0 w L f) (k : Wrote Nil w w') : LkS w0 w' L f := ⟨h.lk.after k, h.low, h.wr.nil k⟩
theorem drew (h : LkS w0 w L f) : LkS w0 w.drew L f := h.after ((Wrote.refl _ w).drew)
theorem drewN (h : LkS w0 w L f) (n : Nat) : LkS w0 (w.drewN n) L f := h.after ((Wrote.refl _ w).drewN n)
/-- what writes to blocks that are none of its own -/
theorem apart {S : Nat → Prop} (h : LkS w0 w L f) (k : Wrote S w w') (hS : ∀ b, S b → L.q.k3 ≤ b) : LkS w0 w' L f := by
  have h1 := h.lk.far
  have h2 := h.lk.port.place.le
  have h3 := h.low
  have n : ∀ b, b < L.q.k3 → ¬ S b := fun b hb e => by have := hS b e; omega
  have ht := h.lk.top
  refine ⟨h.lk.wrote k (n _ (by omega)) (n _ (by omega)) (n _ (by omega)) (n _ (by omega)) fun b _ b2 => n b b2, h.low, h.wr.trans k fun b hb e => ?_⟩
  exact n b (by omega) e
theorem lnew (h : LkS w0 w L f) {k : Nat} (hk : LF L k) : w0.heap.size ≤ k := by
  have := h.low
  rcases hk with rfl | rfl | hk
  · omega
  · omega
  · have := hk.1; omega
theorem call (h : LkS w0 w L f) (hl : LkAt w' L f') (k : Wrote (LF L) w w') : LkS w0 w' L f' := ⟨hl, h.low, h.wr.trans k fun b hb e => by have := h.lnew e; unfold Nil; omega⟩
theorem cell0 (h : LkS w0 w L f) : w.cell? ⟨L.lb, 0, none⟩ = some (.pointer (some ⟨L.p, 0, none⟩)) := h.lk.raw.cell0
end LkS
def LsPost (w0 w : World) (L : Lp) (f : FL) (v : Value) (e : Ending) (w' : World) : Prop := e = .returned v ∧ LkS w0 w' L f ∧ Wrote (Low L) w w'

section
variable {w0 w : World} {L : Lp} {f : FL}
theorem ls_lock (h : LkS w0 w L f) (t d : Int) : Calls Tryz.prog 99 #[.pointer (some ⟨L.p, 0, none⟩), .int .i64 t, .int .i64 d] w (LsPost w0 w L (f.lock t d) (.int .i64 (lockE f.s t d))) :=
  (se_lock h.lk.raw.seat t d).mono fun e w' ⟨he, hS, hW⟩ => ⟨he, h.call (h.lk.seats hS (SS.lock_n _ _ _) hW) (lf_b hW), h.lk.low (lf_b hW)⟩
theorem ls_unlock (h : LkS w0 w L f) (t : Int) : Calls Tryz.prog 103 #[.pointer (some ⟨L.p, 0, none⟩), .int .i64 t] w (LsPost w0 w L (f.turn t 3) (.int .i64 (turnE f.s t))) :=
  (se_unlock h.lk.raw.seat t).mono fun e w' ⟨he, hS, hW⟩ => ⟨he, h.call (h.lk.seats hS (SS.turn_n _ _ _) hW) (lf_b hW), h.lk.low (lf_b hW)⟩
theorem ls_probe (h : LkS w0 w L f) (t : Int) : Calls Tryz.prog 100 #[.pointer (some ⟨L.p, 0, none⟩), .int .i64 t] w (LsPost w0 w L (f.probe t) (.int .i64 (probeE f.s t))) :=
  (se_probe h.lk.raw.seat t).mono fun e w' ⟨he, hS, hW⟩ => ⟨he, h.call (h.lk.seats hS (SS.probe_n _ _) hW) (lf_b hW), h.lk.low (lf_b hW)⟩
theorem ls_step (h : LkS w0 w L f) (t u x : Int) (hD : f.ps.D.length < 4611686018427387904) : Calls Tryz.prog 122 #[.pointer (some ⟨L.lb, 0, none⟩), .int .i64 t, .int .i64 u, .int .i64 x] w (LsPost w0 w L (f.step L t u) (f.did L t u).val) :=
  (fl_step h.lk t u x hD).mono fun e w' ⟨he, hl, hW⟩ => ⟨he, h.call hl hW, h.lk.low hW⟩
theorem ls_state (h : LkS w0 w L f) (t : Int) : Calls Tryz.prog 101 #[.pointer (some ⟨L.p, 0, none⟩), .int .i64 t] w fun e w' => e = .returned (.int .i64 (f.s.stI t)) ∧ w = w' := se_state h.lk.raw.seat t
end

/-- it is used over its port once more -/
theorem ls_use {w0 w : World} {L : Lp} {f : FL} (h : LkS w0 w L f) :
    Calls Tryz.prog 123 #[.pointer (some ⟨L.lb, 0, none⟩), .pointer (some ⟨L.q.p, 0, none⟩)] w fun e w' => e = .returned (.tuple #[]) ∧ LkS w0 w' L f ∧ Wrote (Low L) w w' := by
  refine (fl_use h.lk.raw ⟨L.q.p, 0, none⟩).mono ?_
  rintro e w' ⟨rfl, rfl⟩
  have hW : Wrote (One L.lb) w (w.setCell ⟨L.lb, 1, none⟩ (.pointer (some ⟨L.q.p, 0, none⟩))) := (Wrote.refl _ w).setCell _ _ fun _ => rfl
  have hr := h.lk.raw
  have h1 := h.lk.far
  have h2 := h.lk.port.place.le
  have h3 := h.low
  exact ⟨rfl, ⟨⟨hr.use _, h.lk.port.wrote hW fun b b1 _ e => by unfold One at e; omega, h.lk.far, Nat.le_trans h.lk.top hW.size⟩, h.low, h.wr.trans hW fun b hb e => by unfold One at e; unfold Nil; omega⟩, hW.mono fun b _ e => by unfold One at e; unfold Low; omega⟩

/-! ### before it is used over its port -/
structure LkP (w0 w : World) (L : Lp) (f : FL) : Prop where
  raw : RawF w L (.pointer none) f
  port : PortAt w L.q L.hs f.ps
  far : L.lb < L.q.k0 ∧ L.p < L.q.k0 ∧ L.b < L.q.k0 ∧ L.tb < L.q.k0
  top : L.q.k3 ≤ w.heap.size
  low : w0.heap.size ≤ L.lb ∧ w0.heap.size ≤ L.p ∧ w0.heap.size ≤ L.b ∧ w0.heap.size ≤ L.tb ∧ w0.heap.size ≤ L.q.k0
  wr : Wrote Nil w0 w
theorem LkP.after {w0 w w' : World} {L : Lp} {f : FL} (h : LkP w0 w L f) (k : Wrote Nil w w') : LkP w0 w' L f :=
  ⟨h.raw.after k, h.port.after k, h.far, Nat.le_trans h.top k.size, h.low, h.wr.nil k⟩
theorem lp_use {w0 w : World} {L : Lp} {f : FL} (h : LkP w0 w L f) :
    Calls Tryz.prog 123 #[.pointer (some ⟨L.lb, 0, none⟩), .pointer (some ⟨L.q.p, 0, none⟩)] w fun e w' => e = .returned (.tuple #[]) ∧ LkS w0 w' L f ∧ Wrote (Low L) w w' := by
  refine (fl_use h.raw ⟨L.q.p, 0, none⟩).mono ?_
  rintro e w' ⟨rfl, rfl⟩
  have hW : Wrote (One L.lb) w (w.setCell ⟨L.lb, 1, none⟩ (.pointer (some ⟨L.q.p, 0, none⟩))) := (Wrote.refl _ w).setCell _ _ fun _ => rfl
  have hr := h.raw
  have h1 := h.far
  have h2 := h.port.place.le
  have h3 := h.low
  exact ⟨rfl, ⟨⟨hr.use _, h.port.wrote hW fun b b1 _ e => by unfold One at e; omega, h.far, Nat.le_trans h.top hW.size⟩, h.low, h.wr.trans hW fun b hb e => by unfold One at e; unfold Nil; omega⟩, hW.mono fun b _ e => by unfold One at e; unfold Low; omega⟩
/-- a lock and a port, made of one plan -/
theorem lp_made {w0 w1 w2 : World} {L0 : Lp} {q : Place} {f : FL} {hs : List Int} (hr : RawF w1 L0 (.pointer none) f) (hl : w0.heap.size ≤ L0.lb ∧ w0.heap.size ≤ L0.p ∧ w0.heap.size ≤ L0.b ∧ w0.heap.size ≤ L0.tb) (h0 : Wrote Nil w0 w1)
    (hP : PortAt w2 q hs f.ps) (h1 : w1.heap.size ≤ q.k0) (h2 : q.k3 ≤ w2.heap.size) (hW : Wrote Nil w1 w2) : LkP w0 w2 { L0 with q := q, hs := hs } f := by
  have l1 := blk_lt hr.obj
  have l2 := blk_lt hr.seat.obj
  have l3 := blk_lt hr.seat.ctx
  have l4 := blk_lt hr.tick
  have s0 := h0.size
  exact ⟨(hr.after hW).place q hs, hP, ⟨by dsimp only; omega, by dsimp only; omega, by dsimp only; omega, by dsimp only; omega⟩, h2, ⟨by dsimp only; omega, by dsimp only; omega, by dsimp only; omega, by dsimp only; omega, by dsimp only; omega⟩, h0.nil hW⟩
end Go.Proofs.YteokghghpmppnaaGreatDoor.Kc
