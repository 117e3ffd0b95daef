/- Eight rows of numbers that a law keeps beside a lock of locks, how many were granted in a row, and who holds it. -/
import Derived.Test.YtkmikkjjnbikdaaGreatCohortLaw
import Derived.Test.YtkmikkjjnbikdaaGreatCohortCnt
import Derived.Test.YtkmikkjjnbikdaaGreatRow8
import Derived.Test.YtkmikkjjnbikdaaGreatCohLead
namespace Go.Proofs.YtkmikkjjnbikdaaGreat
open Go.RowKit Go.BigFrame
set_option linter.unusedVariables false
set_option maxRecDepth 100000

structure RdA (w0 w : World) (L : Lp) (f : FL) (Qb : Nat) (vq : Nat → Value) (q : Nat → List Nat) : Prop where
  ls : LkS w0 w L f
  r8 : R8 w L.q.k3 Qb vq q
namespace RdA
variable {w0 w w' : World} {L : Lp} {f f' : FL} {Qb : Nat} {vq : Nat → Value} {q : Nat → List Nat}
theorem after (h : RdA w0 w L f Qb vq q) (k : Wrote Nil w w') : RdA w0 w' L f Qb vq q := ⟨h.ls.after k, h.r8.after k⟩
theorem call (h : RdA w0 w L f Qb vq q) (hl : LkS w0 w' L f') (k : Wrote (Low L) w w') : RdA w0 w' L f' Qb vq q := ⟨hl, h.r8.wrote k fun b hb e => by unfold Low at e; omega⟩
theorem cell (h : RdA w0 w L f Qb vq q) {c : Nat} (hc : c < 8) : w.cell? ⟨Qb, c, none⟩ = some (vq c) := h.r8.cell hc
theorem frz (h : RdA w0 w L f Qb vq q) (c : Nat) : w.frozen? ⟨Qb, c, none⟩ = false := h.r8.frz c
theorem arr (h : RdA w0 w L f Qb vq q) : w.heap[Qb]? = some (.cells (arr8 vq) 56 (0, 0)) := h.r8.arr
theorem row (h : RdA w0 w L f Qb vq q) : ∀ c, c < 8 → RowQ w (vq c) ((q c).map natV) := h.r8.row
theorem low (h : RdA w0 w L f Qb vq q) : ∀ c, c < 8 → ∀ j, (vq c).ownBlock = some j → L.q.k3 ≤ j ∧ j ≠ Qb := h.r8.low
/-- a number more, behind -/
theorem push (h : RdA w0 w L f Qb vq q) {c : Nat} (hc : c < 8) {k : Nat} {v' : Value} (hp : PushQ w w' (vq c) v' ((q c).map natV) (natV k)) {q' : Nat → List Nat} (hq : q' c = q c ++ [k]) (hq2 : ∀ d, d ≠ c → q' d = q d) : RdA w0 (w'.setCell ⟨Qb, c, none⟩ v') L f Qb (upd vq c v') q' := by
  obtain ⟨a, b⟩ := h.r8.push h.ls.lk.lk.top hc hp hq hq2
  exact ⟨h.ls.apart b fun j e => e, a⟩
/-- without its first -/
theorem cut (h : RdA w0 w L f Qb vq q) {c : Nat} (hc : c < 8) {k g off n cap : Nat} {ao : Option Addr} (hv : vq c = .slice (some ⟨g, off, none⟩) n cap) {q' : Nat → List Nat} (hq : q c = k :: q' c) (hq2 : ∀ d, d ≠ c → q' d = q d) (ha : ao = some ⟨g, off, none⟩ ∧ cap = 1 ∨ ao = some ⟨g, off + 1, none⟩) :
    RdA w0 (w.setCell ⟨Qb, c, none⟩ (.slice ao (n - 1) (cap - 1))) L f Qb (upd vq c (.slice ao (n - 1) (cap - 1))) q' := by
  obtain ⟨a, b⟩ := h.r8.cut hc hv hq hq2 ha
  exact ⟨h.ls.apart b fun j e => by have := h.r8.lo; unfold One at e; omega, a⟩
theorem start {w : World} (h : LkS w0 w L f) : RdA w0 (w.alloc (.cells (arr8 fun _ => .slice none 0 0) 56)) L f w.heap.size (fun _ => .slice none 0 0) (fun _ => []) :=
  ⟨h.after ((Wrote.refl _ _).alloc _), R8.start (X := w.alloc _) (w := w) (Go.Deep.blk_alloc_new w _) h.lk.lk.top⟩
end RdA

/-! ### what holds of the lock, of each node's queue, and of how many were granted in a row -/
def OrdR (f : FL) (zs : List Int) (B : Int) (q : Nat → List Nat) (row node : Int) : Prop := ∃ H V gg Wg, OrdJ f f.ga f.la H V gg Wg ∧ Que f V q ∧ Cnt f row node ∧ f.s.n = zs.length ∧ f.nd = hNo zs ∧ f.bud = B
/-- what a step tells of them all -/
inductive StepR (f' : FL) (zs : List Int) (B : Int) (q : Nat → List Nat) (row node : Int) (c k : Nat) (d : Dd) : Prop where
  | same (h0 : d.enq = false) (h1 : d.ev ≠ 1) (e : OrdR f' zs B q row node) : StepR f' zs B q row node c k d
  | enq (hd : d = ⟨0, true, false, false⟩) (q' : Nat → List Nat) (e1 : q' c = q c ++ [k]) (e2 : ∀ j, j ≠ c → q' j = q j) (e : OrdR f' zs B q' row node) : StepR f' zs B q row node c k d
  | lead (hd : d = ⟨1, false, false, true⟩) (q' : Nat → List Nat) (e1 : q c = k :: q' c) (e2 : ∀ j, j ≠ c → q' j = q j) (e : OrdR f' zs B q' 1 c) : StepR f' zs B q row node c k d
  | next (hd : d = ⟨1, false, false, false⟩) (q' : Nat → List Nat) (e1 : q c = k :: q' c) (e2 : ∀ j, j ≠ c → q' j = q j) (e3 : node = c) (e4 : 0 ≤ row ∧ row + 1 ≤ B) (e : OrdR f' zs B q' (row + 1) node) : StepR f' zs B q row node c k d
namespace OrdR
variable {f : FL} {zs : List Int} {B : Int} {q : Nat → List Nat} {row node : Int} {L : Lp}
/-- a call on the seats -/
theorem seats {H : Nat → Option Nat} {V : Nat → List Nat} {gg : Option Nat} {Wg : List Nat} {s' : SS} (hq : Que f V q) (hc : Cnt f row node) {k : Nat} {y : Int} (h8 : f.nd k < 8) (hn : s'.n = f.s.n) (hs : s'.st = upd f.s.st k y) (hl : y = 1 → f.ll k = 0) (hb : (f.s.st k = 0 ∧ y = 1) ∨ (f.s.st k = 2 ∧ y = 3 ∧ f.ph k = 0)) : Que { f with s := s' } V q ∧ Cnt { f with s := s' } row node := by
  have so : ∀ t, t ≠ k → s'.st t = f.s.st t := fun t ht => by rw [hs, upd_other _ _ ht]
  have sk : s'.st k = y := by rw [hs, upd_same]
  refine ⟨hq.keep (k := k) hn rfl rfl so (fun t _ _ => rfl) ?_, hc.keep (k := k) ⟨hn, rfl, rfl, so, fun _ _ => rfl, fun _ _ _ => rfl⟩ h8 rfl ?_⟩
  · show s'.st k = 1 ∧ 2 ≤ f.ll k ↔ _
    rw [sk]
    omega
  · unfold Ctd
    show s'.st k = 2 ∨ (s'.st k = 3 ∧ f.ph k ≤ 3) ↔ _
    rw [sk]
    omega
theorem lock (h : OrdR f zs B q row node) (t d : Int) : OrdR (f.lock t d) zs B q row node := by
  obtain ⟨H, V, gg, Wg, h, hq, hc, hn, hd, hb⟩ := h
  refine ⟨H, V, gg, Wg, h.lock t d, ?_⟩
  have hn' : (f.lock t d).s.n = zs.length := (SS.lock_n _ _ _).trans hn
  suffices hh : Que (f.lock t d) V q ∧ Cnt (f.lock t d) row node from ⟨hh.1, hh.2, hn', hd, hb⟩
  unfold FL.lock SS.lock
  split
  · rename_i e
    unfold lockE at e
    split at e
    · rename_i ht
      obtain ⟨k, rfl⟩ := Int.eq_ofNat_of_zero_le ht.1.1
      split at e
      · rename_i s0
        rw [Int.toNat_natCast] at s0 ⊢
        have hk : k < f.s.n := by omega
        have hx := h.cor.cx k hk
        exact seats (H := H) (gg := gg) (Wg := Wg) (s' := f.s.set k 1 d) hq hc (h.cor.ndl k hk) (y := 1) rfl rfl (fun _ => by show (f.Lc (f.nd k)).s.st (f.own k) = 0; cases hx <;> omega) (.inl ⟨s0, rfl⟩)
      · omega
    · omega
  · exact ⟨hq, hc⟩
theorem unlock (h : OrdR f zs B q row node) (t : Int) : OrdR (f.turn t 3) zs B q row node := by
  obtain ⟨H, V, gg, Wg, h, hq, hc, hn, hd, hb⟩ := h
  refine ⟨H, V, gg, Wg, h.unlock t, ?_⟩
  have hn' : (f.turn t 3).s.n = zs.length := (SS.turn_n _ _ _).trans hn
  suffices hh : Que (f.turn t 3) V q ∧ Cnt (f.turn t 3) row node from ⟨hh.1, hh.2, hn', hd, hb⟩
  unfold FL.turn SS.turn
  split
  · rename_i e
    unfold turnE at e
    split at e
    · rename_i ht
      obtain ⟨k, rfl⟩ := Int.eq_ofNat_of_zero_le ht.1
      rw [Int.toNat_natCast] at e ⊢
      split at e
      · omega
      · split at e
        · rename_i s2
          have hk : k < f.s.n := by omega
          have hx := h.cor.cx k hk
          exact seats (H := H) (gg := gg) (Wg := Wg) (s' := f.s.set k 3 (f.s.dl k)) hq hc (h.cor.ndl k hk) (y := 3) rfl rfl (by omega) (.inr ⟨s2, rfl, by cases hx <;> omega⟩)
        · omega
    · omega
  · exact ⟨hq, hc⟩
theorem len (h : OrdR f zs B q row node) (c : Nat) : (q c).length ≤ 9 := by
  obtain ⟨H, V, gg, Wg, h, hq, _⟩ := h
  match hqc : q c with
  | [] => simp
  | t :: r =>
    obtain ⟨t1, t2⟩ := hq.mem c t (by rw [hqc]; simp)
    obtain ⟨F, e, hF⟩ := hq.own c
    have hl := h.loc t t1
    rw [t2] at hl
    have qf := hl.qf
    have n8 := qf.n8
    have nd := (List.nodup_append.1 qf.nodup).2.1
    have h2 := List.Nodup.length_le_of_subset (l₂ := List.range 8) nd fun x hx => List.mem_range.2 (by have := qf.lt x (List.mem_append_right _ hx); omega)
    rw [List.length_range] at h2
    have e2 := congrArg List.length e
    rw [List.length_map, List.length_append, hqc] at e2
    have : F.length ≤ 1 := by
      rcases hF with ⟨a, _⟩ | ⟨t, _, _, _, _, a⟩
      · rw [a]; simp
      · rw [a]; simp
    omega
theorem one (h : OrdR f zs B q row node) {j k : Nat} (hj : j < f.s.n) (hk : k < f.s.n) (ej : f.s.st j = 2) (ek : f.s.st k = 2) : j = k := by
  obtain ⟨H, V, gg, Wg, h, _⟩ := h
  exact h.one hj hk ej ek
theorem size (h : OrdR f zs B q row node) : f.s.n = zs.length := by
  obtain ⟨H, V, gg, Wg, h, hq, hc, hn, hd, hb⟩ := h
  exact hn
theorem step (h : OrdR f zs B q row node) (h1 : L.a1 = 0) {k c : Nat} (hk : k < zs.length) (hcl : zs.getD k 0 = (c : Int)) :
    (f.step L k k).ps.D.length ≤ f.ps.D.length + 1 ∧ StepR (f.step L k k) zs B q row node c k (f.did L k k) := by
  obtain ⟨H, V, gg, Wg, h, hq, hc, hn, hd, hb⟩ := h
  have hk' : k < f.s.n := by omega
  refine ⟨(f.step_one L k k).D, ?_⟩
  obtain ⟨H', V', gg', Wg', q', a, b, s⟩ := hq.step (L := L) h h1 hk'
  have s2 := hc.step (L := L) h h1 hk'
  have e0 : f.nd k = c := by rw [hd]; unfold hNo; rw [hcl]; rfl
  rw [e0] at s s2
  have e : (f.step L k k).ga = f.ga ∧ (f.step L k k).la = f.la := ⟨a.adr.1.trans h.adr.1.symm ▸ rfl, a.adr.2.trans h.adr.2.symm ▸ rfl⟩
  have a' : OrdJ (f.step L k k) (f.step L k k).ga (f.step L k k).la H' V' gg' Wg' := by rw [e.1, e.2]; exact a
  have F := Stf.far h hk' L k
  have mk : ∀ {row' node'}, Cnt (f.step L k k) row' node' → OrdR (f.step L k k) zs B q' row' node' := fun x => ⟨_, _, _, _, a', b, x, F.n.trans hn, F.nd.trans hd, (f.mid_s L k k).2.2.2.trans hb⟩
  have oth : ∀ l : List Nat, q' = upd q c l → q' c = l ∧ ∀ j, j ≠ c → q' j = q j := fun l e => by subst e; exact ⟨upd_same _ _ _, fun j hj => upd_other _ _ hj⟩
  cases s with
  | same x y z =>
    subst z
    cases s2 with
    | same _ w => exact .same x y (mk w)
    | lead w _ => rw [w] at y; exact absurd rfl y
    | next w _ _ _ => rw [w] at y; exact absurd rfl y
  | enq x y =>
    obtain ⟨y1, y2⟩ := oth _ y
    cases s2 with
    | same _ w => exact .enq x q' y1 y2 (mk w)
    | lead w _ => rw [x] at w; cases w
    | next w _ _ _ => rw [x] at w; cases w
  | grant bb x r y z =>
    obtain ⟨y1, y2⟩ := oth _ z
    rw [← y1] at y
    cases s2 with
    | same w _ => rw [x] at w; exact absurd rfl w
    | lead w w2 => exact .lead w q' y y2 (mk w2)
    | next w w1 w2 w3 => exact .next w q' y y2 w1 (by omega) (mk w3)
theorem start {n : Nat} {G K : Int} (hl : zs.length = n) (n8 : n ≤ 8) (ho : homesOK zs = true) (hB : 1 ≤ B ∧ B ≤ 1000) : OrdR (newC zs n G K B n) zs B (fun _ => []) 0 (-1) := by
  refine ⟨_, _, _, _, ord_new zs n hl n8 ho hB, Que.start (fun _ => rfl) (fun _ => rfl), Cnt.start fun c => ?_, hl.symm, rfl, rfl⟩
  unfold wP
  split
  · show (List.replicate _ (0 : Int)).getD c 0 = 0
    rw [List.getD_eq_getElem?_getD, List.getElem?_replicate]
    split <;> rfl
  · rfl
end OrdR

/-! ### who holds it -/
/-- how many of the first j hold it -/
def HoldQ (f : FL) (j : Nat) (c : Int) : Prop := (c = 0 ∧ ∀ t, t < j → f.s.st t ≠ 2) ∨ (c = 1 ∧ ∃ t, t < j ∧ f.s.st t = 2)
theorem HoldQ.no {f : FL} {j : Nat} {c : Int} (h : HoldQ f j c) (hj : f.s.st j ≠ 2) : HoldQ f (j + 1) c := by
  rcases h with ⟨e, h⟩ | ⟨e, t, ht, h⟩
  · exact .inl ⟨e, fun t ht => by
      by_cases q : t = j
      · subst q; exact hj
      · exact h t (by omega)⟩
  · exact .inr ⟨e, t, by omega, h⟩
theorem HoldQ.yes {f : FL} {zs : List Int} {B : Int} {q : Nat → List Nat} {row node : Int} {j : Nat} {c : Int} (hO : OrdR f zs B q row node) (hn : j < f.s.n) (h : HoldQ f j c) (hj : f.s.st j = 2) : c = 0 ∧ HoldQ f (j + 1) 1 := by
  rcases h with ⟨e, h⟩ | ⟨e, t, ht, h⟩
  · exact ⟨e, .inr ⟨rfl, j, Nat.lt_succ_self j, hj⟩⟩
  · have := hO.one (show t < f.s.n by omega) hn h hj
    omega
end Go.Proofs.YtkmikkjjnbikdaaGreat
