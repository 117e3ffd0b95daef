/- A lock of locks that was made behind a world: what its calls leave of all else. -/
import Derived.Test.YtkmikkjjnbikdaaGreatCohNew
import Derived.Test.YtkmikkjjnbikdaaGreatCohortStep
import Derived.Test.YtkmikkjjnbikdaaGreatCohortUse
namespace Go.Proofs.YtkmikkjjnbikdaaGreat
open Go.RowKit Go.BigFrame
set_option linter.unusedVariables false
set_option maxRecDepth 100000

/-! ### what comes next where contexts call -/
section
variable {f : FL} {ga : Nat} {la : Nat → Nat} {H : Nat → Option Nat} {V : Nat → List Nat} {gg : Option Nat} {Wg : List Nat}
theorem nx_seats {s' : SS} (h : OrdJ f ga la H V gg Wg) {k : Nat} {y : Int} (hk : k < f.s.n) (hs : s'.st = upd f.s.st k y) (hy : (f.s.st k = 0 ∧ y = 1) ∨ (f.s.st k = 2 ∧ y = 3)) : ∀ t, t < f.s.n → nxF f t = nxF { f with s := s' } t := fun t ht => by
  unfold nxF
  dsimp only
  rw [hs]
  by_cases e : t = k
  · subst e
    rw [upd_same]
    have hx := h.cor.cx t hk
    rcases hy with ⟨a, rfl⟩ | ⟨a, rfl⟩
    · cases hx with
      | idle hx hp hl => rw [a, hp, hl]; rfl
      | _ => omega
    · cases hx with
      | has hx hp hl he q1 q2 => rw [a, hp]; rfl
      | _ => omega
  · rw [upd_other _ _ e]
theorem nx_lock (h : OrdJ f ga la H V gg Wg) (t d : Int) : ∀ j, j < f.s.n → nxF f j = nxF (f.lock t d) j := by
  unfold FL.lock SS.lock
  split
  · rename_i e
    unfold lockE at e
    split at e
    · rename_i ht
      obtain ⟨k, rfl⟩ := Int.eq_ofNat_of_zero_le ht.1.1
      split at e
      · rename_i s0
        rw [Int.toNat_natCast] at s0 ⊢
        exact nx_seats (k := k) (y := 1) h (by omega) rfl (.inl ⟨s0, rfl⟩)
      · omega
    · omega
  · intro j _; rfl
theorem nx_unlock (h : OrdJ f ga la H V gg Wg) (t : Int) : ∀ j, j < f.s.n → nxF f j = nxF (f.turn t 3) j := by
  unfold FL.turn SS.turn
  split
  · rename_i e
    unfold turnE at e
    split at e
    · rename_i ht
      obtain ⟨k, rfl⟩ := Int.eq_ofNat_of_zero_le ht.1
      rw [Int.toNat_natCast] at e ⊢
      split at e
      · omega
      · split at e
        · rename_i s2
          exact nx_seats (k := k) (y := 3) h (by omega) rfl (.inr ⟨s2, rfl⟩)
        · omega
    · omega
  · intro j _; rfl
theorem nx_probe (h : OrdJ f ga la H V gg Wg) (t : Int) : f.probe t = f := by
  unfold FL.probe SS.probe
  rw [h.np]
  rfl
end
namespace LkAt
variable {w w' : World} {L : Lp} {f : FL}
theorem wrote {S : Nat → Prop} (h : LkAt w L f) (k : Wrote S w w') (h5 : ∀ b, b < L.q.k3 → ¬ S b) : LkAt w' L f := ⟨h.lk.wrote k h5, h.inv, h.a1⟩
theorem after (h : LkAt w L f) (k : Wrote Nil w w') : LkAt w' L f := ⟨h.lk.after k, h.inv, h.a1⟩
theorem low {w'' : World} (h : LkAt w L f) {j : Nat} (hj : LF L j) : j < L.q.k3 := hj.2
end LkAt
/-- below a lock's port's end: all that its calls may turn -/
def Low (L : Lp) (k : Nat) : Prop := k < L.q.k3
theorem lk_low {w w' : World} {L : Lp} (k : Wrote (LF L) w w') : Wrote (Low L) w w' := k.mono fun b _ e => e.2
structure LkS (w0 w : World) (L : Lp) (f : FL) : Prop where
  lk : LkAt w L f
  low : w0.heap.size ≤ L.lo
  wr : Wrote Nil w0 w
namespace LkS
variable {w0 w w' : World} {L : Lp} {f f' : FL}
theorem after (h : LkS w0 w L f) (k : Wrote Nil w w') : LkS w0 w' L f := ⟨h.lk.after k, h.low, h.wr.nil k⟩
theorem drew (h : LkS w0 w L f) : LkS w0 w.drew L f := h.after ((Wrote.refl _ w).drew)
theorem drewN (h : LkS w0 w L f) (n : Nat) : LkS w0 (w.drewN n) L f := h.after ((Wrote.refl _ w).drewN n)
theorem k0 (h : LkS w0 w L f) : L.lo < L.q.k3 ∧ L.q.k3 ≤ w.heap.size := by have := h.lk.lk.k0; exact ⟨by omega, h.lk.lk.top⟩
/-- what writes to blocks that are none of its own -/
theorem apart {S : Nat → Prop} (h : LkS w0 w L f) (k : Wrote S w w') (hS : ∀ b, S b → L.q.k3 ≤ b) : LkS w0 w' L f := by
  have h1 := h.k0
  have h3 := h.low
  exact ⟨h.lk.wrote k fun b hb e => by have := hS b e; omega, h.low, h.wr.trans k fun b hb e => by have := hS b e; unfold Nil; omega⟩
theorem lnew (h : LkS w0 w L f) {k : Nat} (hk : LF L k) : w0.heap.size ≤ k := Nat.le_trans h.low hk.1
theorem call (h : LkS w0 w L f) (hl : LkAt w' L f') (k : Wrote (LF L) w w') : LkS w0 w' L f' := ⟨hl, h.low, h.wr.trans k fun b hb e => by have := h.lnew e; unfold Nil; omega⟩
theorem cell0 (h : LkS w0 w L f) : w.cell? ⟨L.lb, 0, none⟩ = some (.pointer (some ⟨L.p, 0, none⟩)) := h.lk.lk.raw.cell0
end LkS
def LsPost (w0 w : World) (L : Lp) (f : FL) (v : Value) (e : Ending) (w' : World) : Prop := e = .returned v ∧ LkS w0 w' L f ∧ Wrote (Low L) w w'

section
variable {w0 w : World} {L : Lp} {f : FL}
theorem ls_lock (h : LkS w0 w L f) (t d : Int) : Calls Tryz.prog 18 #[.pointer (some ⟨L.p, 0, none⟩), .int .i64 t, .int .i64 d] w (LsPost w0 w L (f.lock t d) (.int .i64 (lockE f.s t d))) :=
  (se_lock h.lk.lk.raw.seat t d).mono fun e w' ⟨he, hS, hW⟩ => by
    obtain ⟨H, V, gg, Wg, hJ⟩ := h.lk.inv
    have hl : LkAt w' L (f.lock t d) := ⟨(h.lk.lk.seats hS (SS.lock_n _ _ _) hW).same fun j hj => nx_lock hJ t d j (by have : j < (f.s.lock t d).n := hj; rw [SS.lock_n] at this; exact this), ⟨H, V, gg, Wg, hJ.lock t d⟩, h.lk.a1⟩
    exact ⟨he, h.call hl (lf_b h.lk.lk hW), lk_low (lf_b h.lk.lk hW)⟩
theorem ls_unlock (h : LkS w0 w L f) (t : Int) : Calls Tryz.prog 19 #[.pointer (some ⟨L.p, 0, none⟩), .int .i64 t] w (LsPost w0 w L (f.turn t 3) (.int .i64 (turnE f.s t))) :=
  (se_unlock h.lk.lk.raw.seat t).mono fun e w' ⟨he, hS, hW⟩ => by
    obtain ⟨H, V, gg, Wg, hJ⟩ := h.lk.inv
    have hl : LkAt w' L (f.turn t 3) := ⟨(h.lk.lk.seats hS (SS.turn_n _ _ _) hW).same fun j hj => nx_unlock hJ t j (by have : j < (f.s.turn t 3).n := hj; rw [SS.turn_n] at this; exact this), ⟨H, V, gg, Wg, hJ.unlock t⟩, h.lk.a1⟩
    exact ⟨he, h.call hl (lf_b h.lk.lk hW), lk_low (lf_b h.lk.lk hW)⟩
theorem ls_probe (h : LkS w0 w L f) (t : Int) : Calls Tryz.prog 123 #[.pointer (some ⟨L.p, 0, none⟩), .int .i64 t] w (LsPost w0 w L (f.probe t) (.int .i64 (probeE f.s t))) :=
  (se_probe h.lk.lk.raw.seat t).mono fun e w' ⟨he, hS, hW⟩ => by
    obtain ⟨H, V, gg, Wg, hJ⟩ := h.lk.inv
    have e2 : f.s.probe t = f.s := by unfold SS.probe; rw [hJ.np]; rfl
    rw [e2] at hS
    rw [nx_probe hJ]
    have hl : LkAt w' L f := ⟨h.lk.lk.seats hS rfl hW, ⟨H, V, gg, Wg, hJ⟩, h.lk.a1⟩
    exact ⟨he, h.call hl (lf_b h.lk.lk hW), lk_low (lf_b h.lk.lk hW)⟩
theorem ls_step (h : LkS w0 w L f) (t u x : Int) (hD : f.ps.D.length < 4611686018427387904) (e : t = u := by rfl) : Calls Tryz.prog 20 #[.pointer (some ⟨L.lb, 0, none⟩), .int .i64 t, .int .i64 u, .int .i64 x] w (LsPost w0 w L (f.step L t u) (f.did L t u).val) := by
  subst e
  exact (fl_step h.lk t x hD).mono fun e w' ⟨he, hl, hW⟩ => ⟨he, h.call hl hW, lk_low hW⟩
theorem ls_state (h : LkS w0 w L f) (t : Int) : Calls Tryz.prog 21 #[.pointer (some ⟨L.p, 0, none⟩), .int .i64 t] w fun e w' => e = .returned (.int .i64 (f.s.stI t)) ∧ w = w' := se_state h.lk.lk.raw.seat t
theorem ls_len (h : LkS w0 w L f) : Calls Tryz.prog 27 #[.pointer (some ⟨L.p, 0, none⟩)] w fun e w' => e = .returned (.int .i64 f.s.n) ∧ w = w' := se_len h.lk.lk.raw.seat
end
theorem uf_lf {w w' : World} {L : Lp} {f : FL} {pv pg : Value} {pl : Nat → Value} {nx : Nat → Value} (hr : FlRaw w L pv pg pl f nx) (hf : L.gi.hi ≤ L.q.k0 ∧ ∀ c, c < 8 → L.has c = true → (L.li c).hi ≤ L.q.k0) (hk : L.q.k0 ≤ L.q.k3) (k : Wrote (UF L) w w') : Wrote (LF L) w w' := k.mono fun j _ e => by
  have := hr.low
  have := hr.glr
  unfold LF Rng
  rcases e with e | e | ⟨c, hc, hh, e⟩
  · omega
  · unfold Rng at e; omega
  · have := hf.2 c hc hh
    have := hr.sep.1 c hc hh
    unfold Rng at e; omega
/-- what Use leaves of its port -/
theorem use_port {w w' : World} {L : Lp} {f : FL} {pv pg : Value} {pl : Nat → Value} {nx : Nat → Value} (hr : FlRaw w L pv pg pl f nx) (hf : L.gi.hi ≤ L.q.k0 ∧ ∀ c, c < 8 → L.has c = true → (L.li c).hi ≤ L.q.k0) (hP : PortAt w L.q L.hs f.ps) (k : Wrote (UF L) w w') : PortAt w' L.q L.hs f.ps := by
  have := hr.low
  have := hr.glr
  refine hP.wrote k fun b b1 _ e => ?_
  rcases e with e | e | ⟨c, hc, hh, e⟩
  · omega
  · unfold Rng at e; omega
  · have := hf.2 c hc hh
    unfold Rng at e; omega
/-- it is used over its port once more -/
theorem ls_use {w0 w : World} {L : Lp} {f : FL} (h : LkS w0 w L f) :
    Calls Tryz.prog 31 #[.pointer (some ⟨L.lb, 0, none⟩), .pointer (some ⟨L.q.p, 0, none⟩)] w fun e w' => e = .returned (.tuple #[]) ∧ LkS w0 w' L f ∧ Wrote (Low L) w w' := by
  refine (fl_use h.lk.lk.raw ⟨L.q.p, 0, none⟩).mono ?_
  rintro e w' ⟨rfl, hr, hW⟩
  have hlf := uf_lf h.lk.lk.raw h.lk.lk.far h.lk.lk.k0.2 hW
  exact ⟨rfl, h.call ⟨⟨hr, use_port h.lk.lk.raw h.lk.lk.far h.lk.lk.port hW, h.lk.lk.far, Nat.le_trans h.lk.lk.top hW.size⟩, h.lk.inv, h.lk.a1⟩ hlf, lk_low hlf⟩

/-! ### before it is used over its port -/
structure LkP (w0 w : World) (L : Lp) (f : FL) : Prop where
  raw : FlRaw w L (.pointer none) (.pointer none) (fun _ => .pointer none) f (nxF f)
  port : PortAt w L.q L.hs f.ps
  far : L.gi.hi ≤ L.q.k0 ∧ ∀ c, c < 8 → L.has c = true → (L.li c).hi ≤ L.q.k0
  top : L.q.k3 ≤ w.heap.size
  low : w0.heap.size ≤ L.lo
  wr : Wrote Nil w0 w
  inv : ∃ H V gg Wg, OrdJ f f.ga f.la H V gg Wg
  a1 : L.a1 = 0
theorem lp_use {w0 w : World} {L : Lp} {f : FL} (h : LkP w0 w L f) :
    Calls Tryz.prog 31 #[.pointer (some ⟨L.lb, 0, none⟩), .pointer (some ⟨L.q.p, 0, none⟩)] w fun e w' => e = .returned (.tuple #[]) ∧ LkS w0 w' L f ∧ Wrote (Low L) w w' := by
  refine (fl_use h.raw ⟨L.q.p, 0, none⟩).mono ?_
  rintro e w' ⟨rfl, hr, hW⟩
  have hk := h.port.place.le
  have hlf := uf_lf h.raw h.far (by omega) hW
  exact ⟨rfl, ⟨⟨⟨hr, use_port h.raw h.far h.port hW, h.far, Nat.le_trans h.top hW.size⟩, h.inv, h.a1⟩, h.low, h.wr.trans hlf fun b hb e => by have := h.low; unfold LF Rng at e; unfold Nil; omega⟩, lk_low hlf⟩
end Go.Proofs.YtkmikkjjnbikdaaGreat
