/- If all call a lock of locks and step by turns, each call is granted and comes to its end: what is known between two turns; no walk. -/
import Derived.Test.YtkmikkjjnbikdaaGreatCoFlat
import Derived.Test.YtkmikkjjnbikdaaGreatCohortPlain
import Derived.Test.YtkmikkjjnbikdaaGreatCohortAcc
import Derived.Test.YtkmikkjjnbikdaaGreatCohortCnt
import Derived.Test.YtkmikkjjnbikdaaGreatCohRows
namespace Go.Proofs.YtkmikkjjnbikdaaGreat.Kf
set_option linter.unusedVariables false
set_option maxRecDepth 100000

/-! ### a step, by what a context does -/
namespace OrdJ
variable {f : FL} {g : Option Nat} {W : List Nat} {nx ow : Int} {L : Lp}
theorem at_idle (h : OrdJ f g W nx ow) {k : Nat} (hk : k < f.s.n) (s0 : f.s.st k = 0) : f.did L k k = Dd.no ∧ f.step L k k = f := by
  have ht : (0 : Int) ≤ (k : Int) ∧ (k : Int) < f.s.n := by omega
  have e : f.did L k k = Dd.no := by
    unfold FL.did
    rw [if_pos ht, Int.toNat_natCast, if_neg (by omega), if_neg (by omega), if_neg (by omega)]
  have em : f.mid L k k = f := by
    unfold FL.mid
    rw [if_pos ht, Int.toNat_natCast, if_neg (by omega), if_neg (by omega), if_neg (by omega)]
  refine ⟨e, ?_⟩
  unfold FL.step
  rw [e, em, fin_none (by rw [s0]; rfl)]
theorem at_draw (h : OrdJ f g W nx ow) (h1 : L.a1 = 0) {k : Nat} (hk : k < f.s.n) (s1 : f.s.st k = 1) (hd : f.dr k = false) :
    f.did L k k = ⟨0, true, false, false⟩ ∧ f.step L k k = { f with num := upd f.num k nx, dr := upd f.dr k true, ps := doS f.ps k 5 0 0 1 } := by
  have ht : (0 : Int) ≤ (k : Int) ∧ (k : Int) < f.s.n := by omega
  have e : f.did L k k = ⟨0, true, false, false⟩ := by
    unfold FL.did FL.acqD
    rw [if_pos ht, Int.toNat_natCast, if_pos s1, hd, if_neg (by decide)]
  have em : f.mid L k k = { f with num := upd f.num k nx, dr := upd f.dr k true, ps := doS f.ps k 5 0 0 1 } := by
    unfold FL.mid FL.acq
    rw [if_pos ht, Int.toNat_natCast, if_pos s1, hd, if_neg (by decide), h1, (do_add h.ws (by rw [h.ac]; exact hk)).1]
  refine ⟨e, ?_⟩
  unfold FL.step
  rw [e, em, fin_none (by rw [s1]; rfl)]
theorem at_turn (h : OrdJ f g W nx ow) (h2 : L.a2 = 1) {k : Nat} (hk : k < f.s.n) (s1 : f.s.st k = 1) (hd : f.dr k = true) (he : ow = f.num k) :
    f.did L k k = ⟨1, false, false, false⟩ ∧ f.step L k k = { f with s := f.s.set k 2 0, ps := doS f.ps k 1 1 0 0 } := by
  have ht : (0 : Int) ≤ (k : Int) ∧ (k : Int) < f.s.n := by omega
  have e1 := (do_load h.ws (by rw [h.ac]; exact hk : k < f.ps.ac.length) 1 (.inr rfl)).1
  rw [if_neg (by decide)] at e1
  have e : f.did L k k = ⟨1, false, false, false⟩ := by
    unfold FL.did FL.acqD
    rw [if_pos ht, Int.toNat_natCast, if_pos s1, hd, if_pos rfl, h2, e1, if_pos he]
  have em : f.mid L k k = { f with ps := doS f.ps k 1 1 0 0 } := by
    unfold FL.mid FL.acq
    rw [if_pos ht, Int.toNat_natCast, if_pos s1, hd, if_pos rfl, h2]
  refine ⟨e, ?_⟩
  unfold FL.step
  rw [e, em, fin_some hk (by rw [s1]; rfl : behindI (f.s.st k) 1 = some 2)]
theorem at_wait (h : OrdJ f g W nx ow) (h2 : L.a2 = 1) {k : Nat} (hk : k < f.s.n) (s1 : f.s.st k = 1) (hd : f.dr k = true) (he : ow ≠ f.num k) :
    f.did L k k = Dd.no ∧ f.step L k k = { f with ps := doS f.ps k 1 1 0 0 } := by
  have ht : (0 : Int) ≤ (k : Int) ∧ (k : Int) < f.s.n := by omega
  have e1 := (do_load h.ws (by rw [h.ac]; exact hk : k < f.ps.ac.length) 1 (.inr rfl)).1
  rw [if_neg (by decide)] at e1
  have e : f.did L k k = Dd.no := by
    unfold FL.did FL.acqD
    rw [if_pos ht, Int.toNat_natCast, if_pos s1, hd, if_pos rfl, h2, e1, if_neg he]
  have em : f.mid L k k = { f with ps := doS f.ps k 1 1 0 0 } := by
    unfold FL.mid FL.acq
    rw [if_pos ht, Int.toNat_natCast, if_pos s1, hd, if_pos rfl, h2]
  refine ⟨e, ?_⟩
  unfold FL.step
  rw [e, em, fin_none (by rw [s1]; rfl)]
theorem at_free (h : OrdJ f g W nx ow) (h2 : L.a2 = 1) {k : Nat} (hk : k < f.s.n) (s3 : f.s.st k = 3) :
    f.did L k k = ⟨3, false, false, false⟩ ∧ f.step L k k = { f with s := f.s.set k 0 0, num := upd f.num k 0, dr := upd f.dr k false, ps := doS f.ps k 2 1 0 ((f.num k + 1) % 4294967296) } := by
  have ht : (0 : Int) ≤ (k : Int) ∧ (k : Int) < f.s.n := by omega
  have e : f.did L k k = ⟨3, false, false, false⟩ := by
    unfold FL.did
    rw [if_pos ht, Int.toNat_natCast, if_neg (by omega), if_pos s3]
  have em : f.mid L k k = f.rel L k k := by
    unfold FL.mid
    rw [if_pos ht, Int.toNat_natCast, if_neg (by omega), if_pos s3]
  refine ⟨e, ?_⟩
  unfold FL.step
  rw [e, em, fin_some hk (by rw [s3]; rfl : behindI (f.s.st k) 3 = some 0)]
  unfold FL.rel
  rw [h2]
end OrdJ

/-! ### sums -/
def sumN (w : Nat → Nat) : Nat → Nat
  | 0 => 0
  | n + 1 => sumN w n + w n
theorem sumN_same {w w' : Nat → Nat} {n : Nat} (h : ∀ k, k < n → w' k = w k) : sumN w' n = sumN w n := by
  induction n with
  | zero => rfl
  | succ n ih => show sumN w' n + w' n = sumN w n + w n; rw [ih fun k hk => h k (by omega), h n (by omega)]
theorem sumN_upd {w w' : Nat → Nat} {n k : Nat} (hk : k < n) (h : ∀ j, j ≠ k → w' j = w j) : sumN w' n + w k = sumN w n + w' k := by
  induction n with
  | zero => omega
  | succ n ih =>
    show sumN w' n + w' n + w k = sumN w n + w n + w' k
    by_cases e : k = n
    · subst e
      rw [sumN_same fun j hj => h j (by omega)]
      omega
    · have := ih (by omega)
      have := h n (fun x => e x.symm)
      omega
theorem sumN_const (c n : Nat) : sumN (fun _ => c) n = c * n := by
  induction n with
  | zero => rfl
  | succ n ih => show sumN _ n + c = _; rw [ih, Nat.mul_succ]

/-! ### all by turns -/
def phs (x : Int) : Nat := if x = 1 then 2 else if x = 3 then 1 else 0
def wgt (f : FL) (left : Nat → Nat) (k : Nat) : Nat := 3 * left k + phs (f.s.st k)
/-- how much is to do -/
def todo (f : FL) (left : Nat → Nat) : Nat := sumN (wgt f left) f.s.n
theorem todo_start {f : FL} (hst : ∀ k, f.s.st k = 0) {n c : Nat} (hn : n = f.s.n) : todo f (fun k => if k < n then c else 0) = 3 * c * f.s.n := by
  unfold todo
  rw [sumN_same (w := fun _ => 3 * c) (fun k hk => by unfold wgt; rw [hst k]; show 3 * (if k < n then c else 0) + phs 0 = 3 * c; rw [if_pos (by omega)]; rfl), sumN_const]
structure SvI (f : FL) (c : Nat) (left grants : Nat → Nat) : Prop where
  ord : ∃ g W nx ow, OrdJ f g W nx ow
  stx : ∀ k, k < f.s.n → f.s.st k = 0 ∨ (f.s.st k = 1 ∧ f.dr k = true) ∨ f.s.st k = 3
  cnt : ∀ k, k < f.s.n → grants k + left k + (if f.s.st k = 1 then 1 else 0) = c
/-- nothing to do, or its turn hasn't come -/
def Stuck (f : FL) (left : Nat → Nat) (k : Nat) : Prop := (f.s.st k = 0 ∧ left k = 0) ∨ (f.s.st k = 1 ∧ f.num k ≠ f.ps.ws.getD 1 0)
/-- is there anything to do? -/
def Busy (f : FL) (left : Nat → Nat) (k : Nat) : Prop := 0 < left k ∨ f.s.st k ≠ 0

theorem st_set (s : SS) (k : Nat) (x d : Int) (j : Nat) : (s.set k x d).st j = upd s.st k x j := rfl

theorem SvI.start {f : FL} {c : Nat} {left grants : Nat → Nat} (hO : OrdI f []) (hst : ∀ k, f.s.st k = 0) (hc : ∀ k, k < f.s.n → grants k + left k + (if f.s.st k = 1 then 1 else 0) = c) : SvI f c left grants := by
  obtain ⟨g, nx, ow, hO⟩ := hO
  exact ⟨⟨g, [], nx, ow, hO⟩, fun k _ => .inl (hst k), hc⟩
theorem SvI.at_idle {f : FL} {c : Nat} {left grants : Nat → Nat} {L : Lp} (h : SvI f c left grants) {k : Nat} (hk : k < f.s.n) (s0 : f.s.st k = 0) : f.did L k k = Dd.no := by
  obtain ⟨g, W, nx, ow, ho⟩ := h.ord
  exact (ho.at_idle hk s0).1

/-- one calls, and draws its number -/
theorem SvI.calls {f : FL} {c : Nat} {left grants : Nat → Nat} {L : Lp} (h : SvI f c left grants) (h1 : L.a1 = 0) (h2 : L.a2 = 1) {k : Nat} (hk : k < f.s.n) (s0 : f.s.st k = 0) (hl : 0 < left k) :
    lockE f.s k (-1) = 0 ∧ (f.lock k (-1)).did L k k = ⟨0, true, false, false⟩ ∧ SvI ((f.lock k (-1)).step L k k) c (upd left k (left k - 1)) grants ∧
      todo ((f.lock k (-1)).step L k k) (upd left k (left k - 1)) + 1 = todo f left ∧ ((f.lock k (-1)).step L k k).s = f.s.set k 1 (-1) ∧ ((f.lock k (-1)).step L k k).ps.D.length ≤ f.ps.D.length + 1 := by
  obtain ⟨g, W, nx, ow, ho⟩ := h.ord
  have el : lockE f.s k (-1) = 0 := by unfold lockE; rw [if_pos ⟨by omega, .inl rfl⟩, Int.toNat_natCast, if_pos s0]
  have ef : f.lock k (-1) = { f with s := f.s.set k 1 (-1) } := by unfold FL.lock SS.lock; rw [if_pos el, Int.toNat_natCast]
  have ho1 := ho.lock k (-1)
  rw [ef] at ho1 ⊢
  have hn := ho.idle hk s0
  have hd : f.dr k = false := by
    cases e : f.dr k
    · rfl
    · exact absurd ((ho.dr k hk).1 e) hn
  have s1 : (f.s.set k 1 (-1)).st k = 1 := upd_same _ _ _
  obtain ⟨e1, e2⟩ := ho1.at_draw h1 (k := k) hk s1 hd
  obtain ⟨_, a2, a3, a4⟩ := do_add ho.ws (show k < f.ps.ac.length by rw [ho.ac]; exact hk)
  have ho2 := ho1.enq (k := k) hk s1 hd a2 a3
  refine ⟨el, e1, ?_, ?_, ?_, ?_⟩
  · rw [e2]
    refine ⟨⟨_, _, _, _, ho2⟩, fun j hj => ?_, fun j hj => ?_⟩
    · show upd f.s.st k 1 j = 0 ∨ (upd f.s.st k 1 j = 1 ∧ upd f.dr k true j = true) ∨ upd f.s.st k 1 j = 3
      by_cases e : j = k
      · subst e; rw [upd_same, upd_same]; exact .inr (.inl ⟨rfl, rfl⟩)
      · rw [upd_other _ _ e, upd_other _ _ e]; exact h.stx j hj
    · show grants j + upd left k (left k - 1) j + (if upd f.s.st k 1 j = 1 then 1 else 0) = c
      have := h.cnt j hj
      by_cases e : j = k
      · subst e
        rw [upd_same, upd_same, if_pos rfl]
        rw [s0, if_neg (by decide)] at this
        omega
      · rw [upd_other _ _ e, upd_other _ _ e]; exact this
  · rw [e2]
    have := sumN_upd (w := wgt f left) (w' := wgt { f with s := f.s.set k 1 (-1), num := upd f.num k nx, dr := upd f.dr k true, ps := doS f.ps k 5 0 0 1 } (upd left k (left k - 1))) hk (fun j e => by
      unfold wgt
      rw [upd_other _ _ e, st_set, upd_other _ _ e])
    have w1 : wgt { f with s := f.s.set k 1 (-1), num := upd f.num k nx, dr := upd f.dr k true, ps := doS f.ps k 5 0 0 1 } (upd left k (left k - 1)) k = 3 * (left k - 1) + 2 := by
      unfold wgt
      rw [upd_same, st_set, upd_same]; rfl
    have w0 : wgt f left k = 3 * left k := by unfold wgt; rw [s0]; rfl
    show sumN (wgt { f with s := f.s.set k 1 (-1), num := upd f.num k nx, dr := upd f.dr k true, ps := doS f.ps k 5 0 0 1 } (upd left k (left k - 1))) f.s.n + 1 = sumN (wgt f left) f.s.n
    rw [w1, w0] at this
    omega
  · rw [e2]
  · rw [e2]; exact Nat.le_of_eq a4

/-- one is granted the lock, and gives it back -/
theorem SvI.grant {f : FL} {c : Nat} {left grants : Nat → Nat} {L : Lp} (h : SvI f c left grants) (h1 : L.a1 = 0) (h2 : L.a2 = 1) {k : Nat} (hk : k < f.s.n) (hn : ¬ (f.s.st k = 0 ∧ 0 < left k)) (he : (f.did L k k).ev = 1) :
    f.did L k k = ⟨1, false, false, false⟩ ∧ turnE (f.step L k k).s k = 0 ∧ SvI ((f.step L k k).turn k 3) c left (upd grants k (grants k + 1)) ∧ todo ((f.step L k k).turn k 3) left + 1 = todo f left ∧
      (∀ j, ((f.step L k k).turn k 3).s.st j = upd f.s.st k 3 j) ∧ ((f.step L k k).turn k 3).s.n = f.s.n ∧ (f.step L k k).ps.D.length ≤ f.ps.D.length + 1 := by
  obtain ⟨g, W, nx, ow, ho⟩ := h.ord
  have hk2 : k < f.ps.ac.length := by rw [ho.ac]; exact hk
  rcases h.stx k hk with s0 | ⟨s1, hd⟩ | s3
  · rw [(ho.at_idle (L := L) hk s0).1] at he
    exact absurd he (by decide)
  · by_cases hq : ow = f.num k
    · obtain ⟨e1, e2⟩ := ho.at_turn h2 hk s1 hd hq
      obtain ⟨rfl, W', rfl, hnW⟩ := ho.first hk s1 hd hq
      obtain ⟨_, a2, a3, a4⟩ := do_load ho.ws hk2 1 (.inr rfl)
      have ho2 := ho.grant a2 a3 0
      have ho3 := ho2.turn k 3 (.inl rfl)
      have s2 : (f.s.set k 2 0).st k = 2 := upd_same _ _ _
      have et : turnE (f.s.set k 2 0) k = 0 := by
        unfold turnE
        rw [if_pos ⟨by omega, show (k : Int) < f.s.n by omega⟩, Int.toNat_natCast, s2]; rfl
      have ef : ({ f with s := f.s.set k 2 0, ps := doS f.ps k 1 1 0 0 } : FL).turn k 3 = { f with s := (f.s.set k 2 0).set k 3 0, ps := doS f.ps k 1 1 0 0 } := by
        unfold FL.turn SS.turn
        rw [if_pos et, Int.toNat_natCast]
        congr 2
        exact upd_same _ _ _
      have stj : ∀ j, ((f.s.set k 2 0).set k 3 0).st j = upd f.s.st k 3 j := fun j => by
        rw [st_set]
        unfold upd
        split
        · rfl
        · rename_i q
          show upd f.s.st k 2 j = _
          rw [upd_other _ _ q]
      rw [e2]
      rw [ef] at ho3 ⊢
      refine ⟨e1, et, ⟨⟨_, _, _, _, ho3⟩, fun j hj => ?_, fun j hj => ?_⟩, ?_, stj, rfl, Nat.le_of_eq a4⟩
      · show ((f.s.set k 2 0).set k 3 0).st j = 0 ∨ (((f.s.set k 2 0).set k 3 0).st j = 1 ∧ f.dr j = true) ∨ ((f.s.set k 2 0).set k 3 0).st j = 3
        rw [stj]
        by_cases e : j = k
        · subst e; rw [upd_same]; exact .inr (.inr rfl)
        · rw [upd_other _ _ e]; exact h.stx j hj
      · show upd grants k (grants k + 1) j + left j + (if ((f.s.set k 2 0).set k 3 0).st j = 1 then 1 else 0) = c
        rw [stj]
        have := h.cnt j hj
        by_cases e : j = k
        · subst e
          rw [upd_same, upd_same, if_neg (by decide)]
          rw [s1, if_pos rfl] at this
          omega
        · rw [upd_other _ _ e, upd_other _ _ e]; exact this
      · have := sumN_upd (w := wgt f left) (w' := wgt { f with s := (f.s.set k 2 0).set k 3 0, ps := doS f.ps k 1 1 0 0 } left) hk (fun j e => by
          unfold wgt
          rw [stj, upd_other _ _ e])
        have w1 : wgt { f with s := (f.s.set k 2 0).set k 3 0, ps := doS f.ps k 1 1 0 0 } left k = 3 * left k + 1 := by
          unfold wgt
          rw [stj, upd_same]; rfl
        have w0 : wgt f left k = 3 * left k + 2 := by unfold wgt; rw [s1]; rfl
        show sumN _ f.s.n + 1 = sumN _ f.s.n
        omega
    · rw [(ho.at_wait h2 hk s1 hd hq).1] at he
      exact absurd he (by decide)
  · rw [(ho.at_free h2 hk s3).1] at he
    exact absurd he (by decide)

/-- neither: one gives the lock back, or nothing comes of it -/
theorem SvI.other {f : FL} {c : Nat} {left grants : Nat → Nat} {L : Lp} (h : SvI f c left grants) (h1 : L.a1 = 0) (h2 : L.a2 = 1) {k : Nat} (hk : k < f.s.n) (hn : ¬ (f.s.st k = 0 ∧ 0 < left k)) (he : (f.did L k k).ev ≠ 1) :
    SvI (f.step L k k) c left grants ∧ ((todo (f.step L k k) left + 1 = todo f left) ∨ (todo (f.step L k k) left = todo f left ∧ Stuck (f.step L k k) left k ∧ ∀ j, Stuck f left j → Stuck (f.step L k k) left j)) ∧
      (∀ j, j ≠ k → (f.step L k k).s.st j = f.s.st j) ∧ (f.step L k k).s.n = f.s.n ∧ (f.step L k k).ps.D.length ≤ f.ps.D.length + 1 := by
  obtain ⟨g, W, nx, ow, ho⟩ := h.ord
  have hk2 : k < f.ps.ac.length := by rw [ho.ac]; exact hk
  rcases h.stx k hk with s0 | ⟨s1, hd⟩ | s3
  · rw [(ho.at_idle (L := L) hk s0).2]
    exact ⟨h, .inr ⟨rfl, .inl ⟨s0, by omega⟩, fun j hj => hj⟩, fun _ _ => rfl, rfl, Nat.le_succ _⟩
  · by_cases hq : ow = f.num k
    · rw [(ho.at_turn h2 hk s1 hd hq).1] at he
      exact absurd rfl he
    · obtain ⟨e1, e2⟩ := ho.at_wait h2 hk s1 hd hq
      obtain ⟨_, a2, a3, a4⟩ := do_load ho.ws hk2 1 (.inr rfl)
      rw [e2]
      refine ⟨⟨⟨_, _, _, _, ho.psS a2 a3⟩, h.stx, h.cnt⟩, .inr ⟨rfl, .inr ⟨s1, ?_⟩, fun j hj => ?_⟩, fun _ _ => rfl, rfl, Nat.le_of_eq a4⟩
      · show f.num k ≠ (doS f.ps k 1 1 0 0).ws.getD 1 0
        rw [a2]
        exact fun e => hq e.symm
      · unfold Stuck at hj ⊢
        rw [ho.ws] at hj
        show _ ∨ (_ ∧ f.num j ≠ (doS f.ps k 1 1 0 0).ws.getD 1 0)
        rw [a2]
        exact hj
  · obtain ⟨e1, e2⟩ := ho.at_free h2 hk s3
    obtain rfl := ho.held hk (.inr (.inl s3))
    obtain ⟨a2, a3, a4⟩ := do_store (v := (f.num k + 1) % 4294967296) ho.ws hk2
    rw [e2]
    refine ⟨⟨⟨_, _, _, _, ho.free a2 a3 0⟩, fun j hj => ?_, fun j hj => ?_⟩, .inl ?_, fun j e => upd_other _ _ e, rfl, Nat.le_of_eq a4⟩
    · show upd f.s.st k 0 j = 0 ∨ (upd f.s.st k 0 j = 1 ∧ upd f.dr k false j = true) ∨ upd f.s.st k 0 j = 3
      by_cases e : j = k
      · subst e; rw [upd_same]; exact .inl rfl
      · rw [upd_other _ _ e, upd_other _ _ e]; exact h.stx j hj
    · show grants j + left j + (if upd f.s.st k 0 j = 1 then 1 else 0) = c
      have := h.cnt j hj
      by_cases e : j = k
      · subst e
        rw [upd_same, if_neg (by decide)]
        rw [s3, if_neg (by decide)] at this
        omega
      · rw [upd_other _ _ e]; exact this
    · have := sumN_upd (w := wgt f left) (w' := wgt { f with s := f.s.set k 0 0, num := upd f.num k 0, dr := upd f.dr k false, ps := doS f.ps k 2 1 0 ((f.num k + 1) % 4294967296) } left) hk (fun j e => by
        unfold wgt
        rw [st_set, upd_other _ _ e])
      have w1 : wgt { f with s := f.s.set k 0 0, num := upd f.num k 0, dr := upd f.dr k false, ps := doS f.ps k 2 1 0 ((f.num k + 1) % 4294967296) } left k = 3 * left k := by
        unfold wgt
        rw [st_set, upd_same]; rfl
      have w0 : wgt f left k = 3 * left k + 1 := by unfold wgt; rw [s3]; rfl
      show sumN _ f.s.n + 1 = sumN _ f.s.n
      omega

/-- if nobody can go on, nobody has anything to do -/
theorem SvI.rest {f : FL} {c : Nat} {left grants : Nat → Nat} (h : SvI f c left grants) (hs : ∀ k, k < f.s.n → Stuck f left k) : ∀ k, k < f.s.n → ¬ Busy f left k := by
  obtain ⟨g, W, nx, ow, ho⟩ := h.ord
  have hq : g.toList ++ W = [] := by
    cases e : g.toList ++ W with
    | nil => rfl
    | cons a r =>
      have hm : a ∈ g.toList ++ W := by rw [e]; exact List.mem_cons_self
      have ha := ho.lt a hm
      have hnum := ho.num 0 a (by rw [e]; rfl)
      have hr := ho.rng
      rcases hs a ha with ⟨s0, _⟩ | ⟨s1, hne⟩
      · exact absurd hm (ho.idle ha s0)
      · rw [ho.ws] at hne
        exact absurd (show f.num a = ow by rw [hnum]; omega) hne
  intro k hk hb
  have hn : k ∉ g.toList ++ W := by rw [hq]; simp
  rcases hs k hk with ⟨s0, l0⟩ | ⟨s1, _⟩
  · rcases hb with hb | hb
    · omega
    · exact hb s0
  · rcases h.stx k hk with s0 | ⟨_, hd⟩ | s3
    · omega
    · exact hn ((ho.dr k hk).1 hd)
    · omega
end Go.Proofs.YtkmikkjjnbikdaaGreat.Kf
namespace Go.Proofs.YtkmikkjjnbikdaaGreat
set_option linter.unusedVariables false
set_option maxRecDepth 100000

namespace Kf
/-- how much of a call is to do -/
def wv (x : Int) (b : Bool) : Nat := if x = 1 then (if b = true then 1 else 2) else if x = 3 then 1 else 0
def wt (f : FL) (k : Nat) : Nat := wv (f.s.st k) (f.dr k)
/-- a call that must wait for another one -/
def Hlt (f : FL) (k : Nat) : Prop := f.s.st k = 1 ∧ f.dr k = true ∧ f.num k ≠ f.ps.ws.getD 1 0
structure Trn (f f' : FL) (k : Nat) (d : Dd) : Prop where
  oth : ∀ j, j ≠ k → wt f' j = wt f j
  on : (d.ev = 1 ∧ f.s.st k = 1) ∨ (d.ev = 3 ∧ f.s.st k = 3) ∨ (d.ev = 0 ∧ wt f' k + 1 ≤ wt f k) ∨ (d.ev = 0 ∧ wt f' k = wt f k ∧ Hlt f k ∧ ∀ j, Hlt f j → Hlt f' j)
theorem OrdJ.trn {f : FL} {g : Option Nat} {W : List Nat} {nx ow : Int} {L : Lp} (h : OrdJ f g W nx ow) (h1 : L.a1 = 0) (h2 : L.a2 = 1) {k : Nat} (hk : k < f.s.n) (hs : f.s.st k = 1 ∨ f.s.st k = 3) : Trn f (f.step L k k) k (f.did L k k) := by
  rcases hs with s1 | s3
  · cases hd : f.dr k
    · obtain ⟨e1, e2⟩ := h.at_draw h1 hk s1 hd
      rw [e1, e2]
      refine ⟨fun j hj => ?_, .inr (.inr (.inl ⟨rfl, ?_⟩))⟩
      · unfold wt; dsimp only; rw [upd_other _ _ hj]
      · unfold wt; dsimp only; rw [upd_same, s1, hd]; decide
    · by_cases hq : ow = f.num k
      · obtain ⟨e1, e2⟩ := h.at_turn h2 hk s1 hd hq
        rw [e1, e2]
        refine ⟨fun j hj => ?_, .inl ⟨rfl, s1⟩⟩
        have e : (f.s.set k 2 0).st j = f.s.st j := upd_other _ _ hj
        unfold wt; dsimp only; rw [e]
      · obtain ⟨e1, e2⟩ := h.at_wait h2 hk s1 hd hq
        obtain ⟨_, a2, _, _⟩ := do_load h.ws (by rw [h.ac]; exact hk : k < f.ps.ac.length) 1 (.inr rfl)
        rw [e1, e2]
        refine ⟨fun j hj => rfl, .inr (.inr (.inr ⟨rfl, rfl, ⟨s1, hd, by rw [h.ws]; exact fun e => hq e.symm⟩, fun j hj => ?_⟩))⟩
        unfold Hlt at hj ⊢
        rw [h.ws] at hj
        dsimp only
        rw [a2]
        exact hj
  · obtain ⟨e1, e2⟩ := h.at_free h2 hk s3
    rw [e1, e2]
    refine ⟨fun j hj => ?_, .inr (.inl ⟨rfl, s3⟩)⟩
    have e : (f.s.set k 0 0).st j = f.s.st j := upd_other _ _ hj
    unfold wt; dsimp only; rw [e, upd_other _ _ hj]
theorem OrdJ.rests {f : FL} {g : Option Nat} {W : List Nat} {nx ow : Int} (h : OrdJ f g W nx ow) (ha : ∀ j, j < f.s.n → (f.s.st j = 1 ∨ f.s.st j = 3) → Hlt f j) {k : Nat} (hk : k < f.s.n) (hs : f.s.st k = 1 ∨ f.s.st k = 3) : ∃ j, g = some j ∧ f.s.st j ≠ 3 := by
  have hm : k ∈ g.toList ++ W := (h.dr k hk).1 (ha k hk hs).2.1
  cases hg : g with
  | none =>
    subst hg
    cases W with
    | nil => simp at hm
    | cons a r =>
      exfalso
      have hal := h.lt a (by simp)
      have := (ha a hal (.inl (h.stw a (by simp)))).2.2
      rw [h.ws] at this
      refine this ?_
      have hr := h.rng
      have := h.num 0 a rfl
      rw [this]
      show _ = ow
      omega
  | some j =>
    refine ⟨j, rfl, fun e => ?_⟩
    have hjl := h.lt j (by rw [hg]; simp)
    have := (ha j hjl (.inr e)).1
    omega
end Kf
namespace Kc
def wv (x p : Int) : Nat := if x = 1 then (if p = 2 then 1 else if p = 1 then 2 else 3) else if x = 3 then 1 else 0
def wt (f : FL) (k : Nat) : Nat := wv (f.s.st k) (f.pc k)
def Hlt (f : FL) (k : Nat) : Prop := f.s.st k = 1 ∧ f.pc k = 2 ∧ f.ps.ws.getD ((f.ahd k).toNat + 1) 0 ≠ 0
structure Trn (f f' : FL) (k : Nat) (d : Dd) : Prop where
  oth : ∀ j, j ≠ k → wt f' j = wt f j
  on : (d.ev = 1 ∧ f.s.st k = 1) ∨ (d.ev = 3 ∧ f.s.st k = 3) ∨ (d.ev = 0 ∧ wt f' k + 1 ≤ wt f k) ∨ (d.ev = 0 ∧ wt f' k = wt f k ∧ Hlt f k ∧ ∀ j, Hlt f j → Hlt f' j)
theorem OrdJ.trn {f : FL} {g : Option Nat} {W : List Nat} {e0 : Int} {L : Lp} (h : OrdJ f g W e0) (h1 : L.a1 = 0) (h2 : L.a2 = 1) {k : Nat} (hk : k < f.s.n) (hs : f.s.st k = 1 ∨ f.s.st k = 3) : Trn f (f.step L k k) k (f.did L k k) := by
  rcases hs with s1 | s3
  · rcases h.prg k with q | q | q
    · obtain ⟨e1, e2, _⟩ := h.at_flag h2 hk s1 q
      rw [e1, e2]
      refine ⟨fun j hj => ?_, .inr (.inr (.inl ⟨rfl, ?_⟩))⟩
      · unfold wt; dsimp only; rw [upd_other _ _ hj]
      · unfold wt; dsimp only; rw [upd_same, s1, q]; decide
    · obtain ⟨fl, w1, _⟩ := h.ws
      obtain ⟨e1, e2, _⟩ := h.at_swap h1 hk s1 q w1
      rw [e1, e2]
      refine ⟨fun j hj => ?_, .inr (.inr (.inl ⟨rfl, ?_⟩))⟩
      · unfold wt; dsimp only; rw [upd_other _ _ hj]
      · unfold wt; dsimp only; rw [upd_same, s1, q]; decide
    · rcases h.looks (h.waits hk s1 q) with ⟨rfl, W', rfl, _⟩ | ⟨j, hj, pj, ha⟩
      · obtain ⟨e1, e2, _⟩ := h.at_take h2 hk s1
        rw [e1, e2]
        refine ⟨fun j hj => ?_, .inl ⟨rfl, s1⟩⟩
        have e : (f.s.set k 2 0).st j = f.s.st j := upd_other _ _ hj
        unfold wt; dsimp only; rw [e]
      · obtain ⟨e1, e2, a2, _, _, hz⟩ := h.at_wait h2 hk s1 q hj pj ha
        rw [e1, e2]
        refine ⟨fun j hj => rfl, .inr (.inr (.inr ⟨rfl, rfl, ⟨s1, q, by rw [hz]; decide⟩, fun j hj => ?_⟩))⟩
        unfold Hlt at hj ⊢
        dsimp only
        rw [a2]
        exact hj
  · obtain rfl := h.held hk (.inr (.inl s3))
    obtain ⟨e1, e2, _⟩ := h.at_free h2 hk s3
    rw [e1, e2]
    refine ⟨fun j hj => ?_, .inr (.inl ⟨rfl, s3⟩)⟩
    have e : (f.s.set k 0 0).st j = f.s.st j := upd_other _ _ hj
    unfold wt; dsimp only; rw [e, upd_other _ _ hj]
theorem OrdJ.rests {f : FL} {g : Option Nat} {W : List Nat} {e0 : Int} (h : OrdJ f g W e0) (ha : ∀ j, j < f.s.n → (f.s.st j = 1 ∨ f.s.st j = 3) → Hlt f j) {k : Nat} (hk : k < f.s.n) (hs : f.s.st k = 1 ∨ f.s.st k = 3) : ∃ j, g = some j ∧ f.s.st j ≠ 3 := by
  have hm : k ∈ g.toList ++ W := (h.pc2 k hk).1 (ha k hk hs).2.1
  cases hg : g with
  | none =>
    subst hg
    cases W with
    | nil => simp at hm
    | cons a r =>
      exfalso
      have hal := h.lt a (by simp)
      have hne := (ha a hal (.inl (h.stw a (by simp)))).2.2
      have hae : f.ahd a = e0 := h.ch.1
      obtain ⟨fl, w1, w2, _, w4⟩ := h.ws
      rw [hae, w1, List.getD_cons_succ] at hne
      exact absurd w4 hne
  | some j =>
    refine ⟨j, rfl, fun e => ?_⟩
    have hjl := h.lt j (by rw [hg]; simp)
    have := (ha j hjl (.inr e)).1
    omega
end Kc
namespace Km
def wt (f : FL) (k : Nat) : Nat := if f.s.st k = 1 ∨ f.s.st k = 3 then phs (f.s.st k) (f.pc k) else 0
def Hlt (f : FL) (k : Nat) : Prop := (f.s.st k = 1 ∧ f.pc k = 4 ∧ wK f.ps k ≠ 0) ∨ (f.s.st k = 3 ∧ f.pc k = 2 ∧ wN f.ps k = 0)
structure Trn (f f' : FL) (k : Nat) (d : Dd) : Prop where
  oth : ∀ j, j ≠ k → wt f' j = wt f j
  on : (d.ev = 1 ∧ f.s.st k = 1) ∨ (d.ev = 3 ∧ f.s.st k = 3) ∨ (d.ev = 0 ∧ wt f' k + 1 ≤ wt f k) ∨ (d.ev = 0 ∧ wt f' k = wt f k ∧ Hlt f k ∧ ∀ j, Hlt f j → Hlt f' j)
theorem OrdJ.trn {f : FL} {g : Option Nat} {W : List Nat} {L : Lp} (h : OrdJ f g W) (h1 : L.a1 = 0) (h2 : L.a2 = 1) {k : Nat} (hk : k < f.s.n) (hs : f.s.st k = 1 ∨ f.s.st k = 3) : Trn f (f.step L k k) k (f.did L k k) := by
  obtain ⟨g', W', x, p, hS⟩ := h.stp h1 h2 hk
  have hda := did_at (f := f) (L := L) (k := k) (u := k) hk
  have oth : ∀ j, j ≠ k → wt (f.step L k k) j = wt f j := fun j hj => by unfold wt; rw [hS.st, hS.pc, upd_other _ _ hj, upd_other _ _ hj]
  refine ⟨oth, ?_⟩
  have on : x = f.s.st k → (f.did L k k).ev = 0 → (f.did L k k).ev = 1 ∧ f.s.st k = 1 ∨ (f.did L k k).ev = 3 ∧ f.s.st k = 3 ∨ ((f.did L k k).ev = 0 ∧ wt (f.step L k k) k + 1 ≤ wt f k) ∨ ((f.did L k k).ev = 0 ∧ wt (f.step L k k) k = wt f k ∧ Hlt f k ∧ ∀ j, Hlt f j → Hlt (f.step L k k) j) := fun hx he => by
    have w1 : wt (f.step L k k) k = phs (f.s.st k) p := by
      unfold wt
      rw [hS.st, hS.pc, upd_same, upd_same, hx, if_pos hs]
    have w0 : wt f k = phs (f.s.st k) (f.pc k) := by unfold wt; rw [if_pos hs]
    rcases hS.on with q | q | ⟨q1, q2, q3, q4⟩
    · rw [hx] at q
      exact .inr (.inr (.inl ⟨he, by omega⟩))
    · omega
    · obtain ⟨_, wn, wk⟩ := ws_same q3
      refine .inr (.inr (.inr ⟨he, by rw [w1, w0, q2], ?_, fun j hj => ?_⟩))
      · unfold Hlt
        rcases q4 with q | q | q | q
        · omega
        · omega
        · exact .inl q
        · exact .inr q
      · have est : (f.step L k k).s.st j = f.s.st j := (hS.st j).trans (by rw [q1]; exact (upd_self _ _ j).symm)
        have epc : (f.step L k k).pc j = f.pc j := (hS.pc j).trans (by rw [q2]; exact (upd_self _ _ j).symm)
        unfold Hlt at hj ⊢
        rw [est, epc, wn, wk]
        exact hj
  rcases hs with s1 | s3
  · rcases hS.s1 s1 with ⟨hx, _⟩ | ⟨_, he⟩
    · rcases (hda.1 s1).1 with e | e
      · exact on (by omega) e
      · have := (hS.ev e).2.1; omega
    · exact .inl ⟨he, s1⟩
  · rcases (hda.2.1 s3).1 with e | e
    · refine on ?_ e
      have hf : (f.step L k k).s = f.s := by
        show f.s.fin k (f.did L k k).ev = f.s
        rw [e]
        exact (fin_none' (by rw [s3]; rfl)).1
      have := hS.st k
      rw [hf, upd_same] at this
      exact this.symm
    · exact .inr (.inl ⟨e, s3⟩)
theorem OrdJ.rests {f : FL} {g : Option Nat} {W : List Nat} (h : OrdJ f g W) (ha : ∀ j, j < f.s.n → (f.s.st j = 1 ∨ f.s.st j = 3) → Hlt f j) {k : Nat} (hk : k < f.s.n) (hs : f.s.st k = 1 ∨ f.s.st k = 3) : ∃ j, g = some j ∧ f.s.st j ≠ 3 := by
  have some3 : ∀ j, g = some j → f.s.st j ≠ 3 := fun j hg e => by
    subst hg
    have hjl := h.cor.lt j (by simp)
    rcases ha j hjl (.inr e) with q | q
    · omega
    · rcases h.cor.nextOf with ⟨rfl, _⟩ | ⟨i, r, rfl, q2⟩
      · exact absurd rfl (h.cor.un2 j rfl q.1 q.2.1)
      · have hi : i < f.s.n := h.cor.lt i (by simp)
        have s1 := h.cor.stw i (by simp)
        rcases q2 with q2 | q2
        · rcases ha i hi (.inl s1) with q5 | q5 <;> omega
        · have := q.2.2; omega
  rcases hs with s1 | s3
  · have hm : k ∈ g.toList ++ W := (h.cor.inq k hk s1).1 (by rcases ha k hk (.inl s1) with q | q <;> omega)
    cases hg : g with
    | none =>
      subst hg
      cases W with
      | nil => simp at hm
      | cons a r =>
        exfalso
        have hal := h.cor.lt a (by simp)
        have h4 := h.cor.hd rfl a r rfl
        rcases ha a hal (.inl (h.cor.stw a (by simp))) with q | q
        · exact q.2.2 h4.2
        · have := h.cor.stw a (by simp); omega
    | some j => exact ⟨j, rfl, some3 j hg⟩
  · have hg := h.cor.held hk (.inr (.inl s3))
    exact absurd s3 (some3 k hg)
end Km

namespace Inn
def wt : Inn → Nat → Nat
  | tk f => Kf.wt f
  | cl f => Kc.wt f
  | mc f => Km.wt f
def Halt : Inn → Nat → Nat → Prop
  | tk f, o => Kf.Hlt (f.vw o 2 f.s.n)
  | cl f, o => Kc.Hlt (f.vw o (f.s.n + 2) f.s.n)
  | mc f, o => Km.Hlt (f.vw o (2 * f.s.n + 1) f.s.n)
structure Trn (x x' : Inn) (o k : Nat) (d : Dd) : Prop where
  oth : ∀ j, j ≠ k → x'.wt j = x.wt j
  on : (d.ev = 1 ∧ x.s.st k = 1) ∨ (d.ev = 3 ∧ x.s.st k = 3) ∨ (d.ev = 0 ∧ x'.wt k + 1 ≤ x.wt k) ∨ (d.ev = 0 ∧ x'.wt k = x.wt k ∧ x.Halt o k ∧ ∀ j, x.Halt o j → x'.Halt o j)
variable {x : Inn} {o : Nat} {g : Option Nat} {W : List Nat}
theorem wt_on (q : PSta) (k : Nat) : (x.on q).wt k = x.wt k := by cases x <;> rfl
theorem halt_far {q : PSta} (hw : sub q.ws o x.size = sub x.ps.ws o x.size) (k : Nat) : (x.on q).Halt o k ↔ x.Halt o k := by
  cases x with
  | tk f =>
    have hw : sub q.ws o 2 = sub f.ps.ws o 2 := hw
    have e : ({ f with ps := q } : Kf.FL).vw o 2 f.s.n = f.vw o 2 f.s.n := by unfold Kf.FL.vw PSta.vw; rw [hw]
    show Kf.Hlt (({ f with ps := q } : Kf.FL).vw o 2 f.s.n) k ↔ _
    rw [e]; exact Iff.rfl
  | cl f =>
    have hw : sub q.ws o (f.s.n + 2) = sub f.ps.ws o (f.s.n + 2) := hw
    have e : ({ f with ps := q } : Kc.FL).vw o (f.s.n + 2) f.s.n = f.vw o (f.s.n + 2) f.s.n := by unfold Kc.FL.vw PSta.vw; rw [hw]
    show Kc.Hlt (({ f with ps := q } : Kc.FL).vw o (f.s.n + 2) f.s.n) k ↔ _
    rw [e]; exact Iff.rfl
  | mc f =>
    have hw : sub q.ws o (2 * f.s.n + 1) = sub f.ps.ws o (2 * f.s.n + 1) := hw
    have e : ({ f with ps := q } : Km.FL).vw o (2 * f.s.n + 1) f.s.n = f.vw o (2 * f.s.n + 1) f.s.n := by unfold Km.FL.vw PSta.vw; rw [hw]
    show Km.Hlt (({ f with ps := q } : Km.FL).vw o (2 * f.s.n + 1) f.s.n) k ↔ _
    rw [e]; exact Iff.rfl
theorem At.trn (h : x.At o g W) {k u : Nat} (hk : k < x.s.n) (hu : u < x.ps.ac.length) (hs : x.s.st k = 1 ∨ x.s.st k = 3) : Trn x (x.step o k u) o k (x.did o k u) := by
  cases x with
  | tk f =>
    obtain ⟨hl, nx, ow, h⟩ := h
    have hk : k < f.s.n := hk
    have hu : u < f.ps.ac.length := hu
    have e := Kf.step_vw (f := f) (L := Kf.lp o) (L0 := { Kf.lp o with a1 := 0, a2 := 1 }) (o := o) (m := f.s.n) (k := k) (u := u) (by show (o : Int) = o + (0 : Nat); omega) (by show (o : Int) + 1 = o + (1 : Nat); omega) rfl rfl hl hu hk
    have d := Kf.did_vw (f := f) (L := Kf.lp o) (L0 := { Kf.lp o with a1 := 0, a2 := 1 }) (o := o) (m := f.s.n) (k := k) (u := u) (by show (o : Int) = o + (0 : Nat); omega) (by show (o : Int) + 1 = o + (1 : Nat); omega) rfl rfl hl hu hk
    have T := h.trn (L := { Kf.lp o with a1 := 0, a2 := 1 }) rfl rfl hk hs
    have w : ∀ j, Kf.wt (f.step (Kf.lp o) k u) j = Kf.wt ((f.vw o 2 f.s.n).step { Kf.lp o with a1 := 0, a2 := 1 } k k) j := fun j => by
      show Kf.wt ((f.step (Kf.lp o) k u).vw o 2 f.s.n) j = Kf.wt (((f.vw o 2 f.s.n).step { Kf.lp o with a1 := 0, a2 := 1 } k k).nrm f.s.n) j
      rw [e]
    have hh : ∀ j, Kf.Hlt ((f.vw o 2 f.s.n).step { Kf.lp o with a1 := 0, a2 := 1 } k k) j → Kf.Hlt ((f.step (Kf.lp o) k u).vw o 2 (f.step (Kf.lp o) k u).s.n) j := fun j hj => by
      rw [Kf.step_n, e]; exact hj
    refine ⟨fun j hj => (w j).trans (T.oth j hj), ?_⟩
    show ((f.did (Kf.lp o) k u).ev = 1 ∧ _) ∨ ((f.did (Kf.lp o) k u).ev = 3 ∧ _) ∨ ((f.did (Kf.lp o) k u).ev = 0 ∧ Kf.wt (f.step (Kf.lp o) k u) k + 1 ≤ Kf.wt f k) ∨ ((f.did (Kf.lp o) k u).ev = 0 ∧ Kf.wt (f.step (Kf.lp o) k u) k = Kf.wt f k ∧ _ ∧ _)
    rw [w k, d]
    rcases T.on with q | q | q | ⟨q1, q2, q3, q4⟩
    · exact .inl q
    · exact .inr (.inl q)
    · exact .inr (.inr (.inl q))
    · exact .inr (.inr (.inr ⟨q1, q2, q3, fun j hj => hh j (q4 j hj)⟩))
  | cl f =>
    obtain ⟨hl, e0, h⟩ := h
    have hk : k < f.s.n := hk
    have hu : u < f.ps.ac.length := hu
    obtain ⟨y, hA⟩ := Kc.In.adr (L := Kc.lp o) hl h rfl rfl hk hu
    have e := Kc.step_vw hA
    have d := Kc.did_vw hA
    have T := h.trn (L := { Kc.lp o with a1 := 0, a2 := 1 }) rfl rfl hk hs
    have w : ∀ j, Kc.wt (f.step (Kc.lp o) k u) j = Kc.wt ((f.vw o (f.s.n + 2) f.s.n).step { Kc.lp o with a1 := 0, a2 := 1 } k k) j := fun j => by
      show Kc.wt ((f.step (Kc.lp o) k u).vw o (f.s.n + 2) f.s.n) j = Kc.wt (((f.vw o (f.s.n + 2) f.s.n).step { Kc.lp o with a1 := 0, a2 := 1 } k k).nrm f.s.n) j
      rw [e]
    have hh : ∀ j, Kc.Hlt ((f.vw o (f.s.n + 2) f.s.n).step { Kc.lp o with a1 := 0, a2 := 1 } k k) j → Kc.Hlt ((f.step (Kc.lp o) k u).vw o ((f.step (Kc.lp o) k u).s.n + 2) (f.step (Kc.lp o) k u).s.n) j := fun j hj => by
      rw [Kc.step_n, e]; exact hj
    refine ⟨fun j hj => (w j).trans (T.oth j hj), ?_⟩
    show ((f.did (Kc.lp o) k u).ev = 1 ∧ _) ∨ ((f.did (Kc.lp o) k u).ev = 3 ∧ _) ∨ ((f.did (Kc.lp o) k u).ev = 0 ∧ Kc.wt (f.step (Kc.lp o) k u) k + 1 ≤ Kc.wt f k) ∨ ((f.did (Kc.lp o) k u).ev = 0 ∧ Kc.wt (f.step (Kc.lp o) k u) k = Kc.wt f k ∧ _ ∧ _)
    rw [w k, d]
    rcases T.on with q | q | q | ⟨q1, q2, q3, q4⟩
    · exact .inl q
    · exact .inr (.inl q)
    · exact .inr (.inr (.inl q))
    · exact .inr (.inr (.inr ⟨q1, q2, q3, fun j hj => hh j (q4 j hj)⟩))
  | mc f =>
    obtain ⟨hl, h⟩ := h
    have hk : k < f.s.n := hk
    have hu : u < f.ps.ac.length := hu
    have hA := Km.In.adr (L := Km.lp o) hl h rfl rfl hk hu
    have e := Km.step_vw hA
    have d := Km.did_vw hA
    have T := h.trn (L := { Km.lp o with a1 := 0, a2 := 1 }) rfl rfl hk hs
    have w : ∀ j, Km.wt (f.step (Km.lp o) k u) j = Km.wt ((f.vw o (2 * f.s.n + 1) f.s.n).step { Km.lp o with a1 := 0, a2 := 1 } k k) j := fun j => by
      show Km.wt ((f.step (Km.lp o) k u).vw o (2 * f.s.n + 1) f.s.n) j = Km.wt (((f.vw o (2 * f.s.n + 1) f.s.n).step { Km.lp o with a1 := 0, a2 := 1 } k k).nrm f.s.n) j
      rw [e]
    have hh : ∀ j, Km.Hlt ((f.vw o (2 * f.s.n + 1) f.s.n).step { Km.lp o with a1 := 0, a2 := 1 } k k) j → Km.Hlt ((f.step (Km.lp o) k u).vw o (2 * (f.step (Km.lp o) k u).s.n + 1) (f.step (Km.lp o) k u).s.n) j := fun j hj => by
      rw [Km.step_n, e]; exact hj
    refine ⟨fun j hj => (w j).trans (T.oth j hj), ?_⟩
    show ((f.did (Km.lp o) k u).ev = 1 ∧ _) ∨ ((f.did (Km.lp o) k u).ev = 3 ∧ _) ∨ ((f.did (Km.lp o) k u).ev = 0 ∧ Km.wt (f.step (Km.lp o) k u) k + 1 ≤ Km.wt f k) ∨ ((f.did (Km.lp o) k u).ev = 0 ∧ Km.wt (f.step (Km.lp o) k u) k = Km.wt f k ∧ _ ∧ _)
    rw [w k, d]
    rcases T.on with q | q | q | ⟨q1, q2, q3, q4⟩
    · exact .inl q
    · exact .inr (.inl q)
    · exact .inr (.inr (.inl q))
    · exact .inr (.inr (.inr ⟨q1, q2, q3, fun j hj => hh j (q4 j hj)⟩))
theorem At.rests (h : x.At o g W) (ha : ∀ j, j < x.s.n → (x.s.st j = 1 ∨ x.s.st j = 3) → x.Halt o j) {k : Nat} (hk : k < x.s.n) (hs : x.s.st k = 1 ∨ x.s.st k = 3) : ∃ j, g = some j ∧ x.s.st j ≠ 3 := by
  cases x with
  | tk f =>
    obtain ⟨hl, nx, ow, h⟩ := h
    exact Kf.OrdJ.rests (f := f.vw o 2 f.s.n) h ha hk hs
  | cl f =>
    obtain ⟨hl, e0, h⟩ := h
    exact Kc.OrdJ.rests (f := f.vw o (f.s.n + 2) f.s.n) h ha hk hs
  | mc f =>
    obtain ⟨hl, h⟩ := h
    exact Km.OrdJ.rests (f := f.vw o (2 * f.s.n + 1) f.s.n) h ha hk hs
theorem At.wt_rng (h : x.At o g W) {k : Nat} (hk : k < x.s.n) : (x.s.st k = 1 → 1 ≤ x.wt k ∧ x.wt k ≤ 10) ∧ (x.s.st k = 3 → 1 ≤ x.wt k ∧ x.wt k ≤ 4) := by
  cases x with
  | tk f =>
    show (f.s.st k = 1 → 1 ≤ Kf.wt f k ∧ Kf.wt f k ≤ 10) ∧ (f.s.st k = 3 → 1 ≤ Kf.wt f k ∧ Kf.wt f k ≤ 4)
    unfold Kf.wt Kf.wv
    constructor
    · intro e; rw [if_pos e]; split <;> omega
    · intro e; rw [if_neg (by omega), if_pos e]; omega
  | cl f =>
    show (f.s.st k = 1 → 1 ≤ Kc.wt f k ∧ Kc.wt f k ≤ 10) ∧ (f.s.st k = 3 → 1 ≤ Kc.wt f k ∧ Kc.wt f k ≤ 4)
    unfold Kc.wt Kc.wv
    constructor
    · intro e; rw [if_pos e]; split
      · omega
      · split <;> omega
    · intro e; rw [if_neg (by omega), if_pos e]; omega
  | mc f =>
    obtain ⟨hl, h⟩ := h
    show (f.s.st k = 1 → 1 ≤ Km.wt f k ∧ Km.wt f k ≤ 10) ∧ (f.s.st k = 3 → 1 ≤ Km.wt f k ∧ Km.wt f k ≤ 4)
    have h1 : 0 ≤ f.pc k ∧ f.pc k ≤ 4 := h.cor.prg k
    have h3 : f.s.st k = 3 → f.pc k ≤ 3 := h.cor.pc3 k hk
    unfold Km.wt Km.phs
    constructor
    · intro e; rw [if_pos (.inl e), if_pos e]; omega
    · intro e; have := h3 e; rw [if_pos (.inr e), if_neg (by omega), if_pos e]; omega
end Inn
end Go.Proofs.YtkmikkjjnbikdaaGreat
namespace Go.Proofs.YtkmikkjjnbikdaaGreat
set_option linter.unusedVariables false
set_option maxRecDepth 100000

/-! ### what a step leaves of others, in an inner lock -/
theorem Kf.oth (f : Kf.FL) (L : Kf.Lp) {k j : Nat} (u : Int) (hj : j ≠ k) : Kf.wt (f.step L k u) j = Kf.wt f j := by
  have e1 : (f.step L k u).s.st j = f.s.st j := fin_off f.s _ hj
  have e2 : (f.step L k u).dr j = f.dr j := by
    show (f.mid L k u).dr j = _
    unfold Kf.FL.mid Kf.FL.acq Kf.FL.rel Kf.FL.ask
    rw [Int.toNat_natCast]
    repeat' split
    all_goals first | rfl | exact upd_other _ _ hj
  unfold Kf.wt
  rw [e1, e2]
theorem Kc.oth (f : Kc.FL) (L : Kc.Lp) {k j : Nat} (u : Int) (hj : j ≠ k) : Kc.wt (f.step L k u) j = Kc.wt f j := by
  have e1 : (f.step L k u).s.st j = f.s.st j := fin_off f.s _ hj
  have e2 : (f.step L k u).pc j = f.pc j := by
    show (f.mid L k u).pc j = _
    unfold Kc.FL.mid Kc.FL.acq Kc.FL.rel Kc.FL.ask
    rw [Int.toNat_natCast]
    repeat' split
    all_goals first | rfl | exact upd_other _ _ hj
  unfold Kc.wt
  rw [e1, e2]
theorem Km.oth' (f : Km.FL) (L : Km.Lp) {k j : Nat} (u : Int) (hj : j ≠ k) : Km.wt (f.step L k u) j = Km.wt f j := by
  have e1 : (f.step L k u).s.st j = f.s.st j := fin_off f.s _ hj
  have e2 : (f.step L k u).pc j = f.pc j := by
    show (f.mid L k u).pc j = _
    unfold Km.FL.mid Km.FL.acq Km.FL.rel Km.FL.ask
    rw [Int.toNat_natCast]
    repeat' split
    all_goals first | rfl | exact upd_other _ _ hj
  unfold Km.wt
  rw [e1, e2]
namespace Inn
variable {x : Inn} {k j : Nat}
theorem step_oth (a u : Int) (hj : j ≠ k) : (x.step a k u).wt j = x.wt j := by
  cases x
  · exact Kf.oth _ _ u hj
  · exact Kc.oth _ _ u hj
  · exact Km.oth' _ _ u hj
theorem lock_oth (d : Int) (hj : j ≠ k) : (x.lock k d).wt j = x.wt j := by
  cases x with
  | tk f => show Kf.wv ((f.s.lock k d).st j) (f.dr j) = _; rw [lock_off f.s d hj]; rfl
  | cl f => show Kc.wv ((f.s.lock k d).st j) (f.pc j) = _; rw [lock_off f.s d hj]; rfl
  | mc f =>
    have e : (f.lock k d).s.st j = f.s.st j := lock_off f.s d hj
    show Km.wt (f.lock k d) j = Km.wt f j
    unfold Km.wt; rw [e]; rfl
theorem turn_oth (y : Int) (hj : j ≠ k) : (x.turn k y).wt j = x.wt j := by
  cases x with
  | tk f => show Kf.wv ((f.s.turn k y).st j) (f.dr j) = _; rw [turn_off f.s y hj]; rfl
  | cl f => show Kc.wv ((f.s.turn k y).st j) (f.pc j) = _; rw [turn_off f.s y hj]; rfl
  | mc f =>
    have e : (f.turn k y).s.st j = f.s.st j := turn_off f.s y hj
    show Km.wt (f.turn k y) j = Km.wt f j
    unfold Km.wt; rw [e]; rfl
end Inn

/-! ### sums -/
def sumN (w : Nat → Nat) : Nat → Nat
  | 0 => 0
  | n + 1 => sumN w n + w n
theorem sumN_same {w w' : Nat → Nat} {n : Nat} (h : ∀ k, k < n → w' k = w k) : sumN w' n = sumN w n := by
  induction n with
  | zero => rfl
  | succ n ih => show sumN w' n + w' n = sumN w n + w n; rw [ih fun k hk => h k (by omega), h n (by omega)]
theorem sumN_upd {w w' : Nat → Nat} {n k : Nat} (hk : k < n) (h : ∀ j, j < n → j ≠ k → w' j = w j) : sumN w' n + w k = sumN w n + w' k := by
  induction n with
  | zero => omega
  | succ n ih =>
    show sumN w' n + w' n + w k = sumN w n + w n + w' k
    by_cases e : k = n
    · subst e
      rw [sumN_same fun j hj => h j (by omega) (by omega)]
      omega
    · have := ih (by omega) fun j hj hne => h j (by omega) hne
      have := h n (by omega) (fun x => e x.symm)
      omega
theorem sumN_const (c n : Nat) : sumN (fun _ => c) n = c * n := by
  induction n with
  | zero => rfl
  | succ n ih => show sumN _ n + c = _; rw [ih, Nat.mul_succ]

/-! ### how much of a call is to do -/
/-- x: its state, p: its phase; l, g: what is to do of its call in its node's lock, and in the lock of all -/
def wv (x p : Int) (l g : Nat) : Nat := if x = 1 then (if p = 0 then 28 + l else if p = 1 then 28 else if p = 2 then 17 + g else 16) else if x = 3 then (if p = 0 then 14 else if p = 1 then 13 else if p = 2 then 12 else if p = 3 then 12 else if p = 4 then 6 + g else 1 + l) else if x = 2 then 15 else 0
def FL.wl (f : FL) (t : Nat) : Nat := (f.Lc (f.nd t)).wt (f.own t)
def FL.wg (f : FL) (t : Nat) : Nat := f.G.wt (f.nd t)
def FL.wc (f : FL) (t : Nat) : Nat := wv (f.s.st t) (f.ph t) (f.wl t) (f.wg t)
def wgt (f : FL) (left : Nat → Nat) (k : Nat) : Nat := 40 * left k + f.wc k
/-- how much is to do -/
def todo (f : FL) (left : Nat → Nat) : Nat := sumN (wgt f left) f.s.n
theorem todo_start {f : FL} (hst : ∀ k, f.s.st k = 0) {n c : Nat} (hn : n = f.s.n) : todo f (fun k => if k < n then c else 0) = 40 * c * f.s.n := by
  unfold todo
  rw [sumN_same (w := fun _ => 40 * c) (fun k hk => by unfold wgt FL.wc; rw [hst k]; show 40 * (if k < n then c else 0) + wv 0 (f.ph k) _ _ = 40 * c; rw [if_pos (by omega)]; rfl), sumN_const]
/-- the lock of all doesn't count where a context isn't at it -/
theorem wv_g {x p : Int} (l g g' : Nat) (h : ¬ (x = 1 ∧ p = 2)) (h' : ¬ (x = 3 ∧ p = 4)) : wv x p l g = wv x p l g' := by
  unfold wv
  repeat' split
  all_goals first | rfl | omega
section
variable {f : FL} {L : Lp} {ga : Nat} {la : Nat → Nat} {H : Nat → Option Nat} {V : Nat → List Nat} {gg : Option Nat} {Wg : List Nat}
theorem ask_oth (f : FL) (k : Nat) {i : Nat} (hi : i ≠ f.own k) : (f.ask k).wt i = (f.Lc (f.nd k)).wt i := by
  unfold FL.ask FL.lk
  split
  · rw [Inn.lock_oth _ hi, Inn.wt_on]
  · rw [Inn.wt_on]
/-- another context's node's lock -/
theorem Lc_oth (f : FL) (L : Lp) (k : Nat) (u : Int) {c i : Nat} (h : c ≠ f.nd k ∨ i ≠ f.own k) : ((f.step L k u).Lc c).wt i = (f.Lc c).wt i := by
  show ((f.mid L k u).Lc c).wt i = _
  by_cases e : c = f.nd k
  · have hi : i ≠ f.own k := h.resolve_left fun q => q e
    subst e
    unfold FL.mid FL.acq FL.rel
    rw [Int.toNat_natCast]
    repeat' split
    all_goals first
      | rfl
      | (show (upd f.Lc (f.nd k) _ (f.nd k)).wt i = _
         rw [upd_same]
         first
           | rw [Inn.step_oth _ _ hi, ask_oth f k hi]
           | rw [Inn.turn_oth _ hi]
           | (rw [Inn.step_oth _ _ hi]; unfold FL.lk; rw [Inn.wt_on]))
  · unfold FL.mid FL.acq FL.rel
    rw [Int.toNat_natCast]
    repeat' split
    all_goals first
      | rfl
      | (show (upd f.Lc (f.nd k) _ c).wt i = _
         rw [upd_other _ _ e])
/-- another node in the lock of all -/
theorem G_oth (f : FL) (L : Lp) (k : Nat) (u : Int) {d : Nat} (h : d ≠ f.nd k ∨ ¬ ((f.s.st k = 1 ∧ f.ph k ≠ 0) ∨ f.s.st k = 3)) : (f.step L k u).G.wt d = f.G.wt d := by
  show (f.mid L k u).G.wt d = _
  by_cases e : d = f.nd k
  · have hi := h.resolve_left fun q => q e
    unfold FL.mid
    rw [Int.toNat_natCast]
    split
    · split
      · rename_i s1
        unfold FL.acq
        rw [if_pos (by omega)]
      · split
        · rename_i s3; exact absurd (.inr s3) hi
        · rfl
    · rfl
  · unfold FL.mid FL.acq FL.rel
    rw [Int.toNat_natCast]
    repeat' split
    all_goals first
      | rfl
      | exact Inn.lock_oth _ e
      | exact Inn.turn_oth _ e
      | (show (f.gl.step _ _ _).wt d = _
         rw [Inn.step_oth _ _ e]; unfold FL.gl; rw [Inn.wt_on])
/-- a step of k leaves what is to do of another one's call -/
theorem oth_wc (h : OrdJ f ga la H V gg Wg) {k j : Nat} (hk : k < f.s.n) (hj : j < f.s.n) (hne : j ≠ k) : (f.step L k k).wc j = f.wc j := by
  have F := Stf.far h hk L k
  unfold FL.wc FL.wl FL.wg
  rw [F.st j hne, F.ph j hne, F.nd, F.own]
  have e1 : ((f.step L k k).Lc (f.nd j)).wt (f.own j) = (f.Lc (f.nd j)).wt (f.own j) := Lc_oth f L k k (by
    by_cases q : f.nd j = f.nd k
    · exact .inr fun e => hne (h.cor.inj j k hj hk q e)
    · exact .inl q)
  rw [e1]
  by_cases q : f.nd j = f.nd k
  · by_cases l : 2 ≤ (f.Lc (f.nd j)).s.st (f.own j)
    · rw [G_oth f L k k (.inr fun x => ?_)]
      refine hne (one_loc h hj hk q l ?_)
      have hx := h.cor.cx k hk
      cases hx <;> omega
    · have hx := h.cor.cx j hj
      refine wv_g _ _ _ ?_ ?_
      · cases hx <;> omega
      · cases hx <;> omega
  · rw [G_oth f L k k (.inl q)]
/-- how much is to do in one's node's lock, and in the lock of all -/
theorem rngL (h : OrdJ f ga la H V gg Wg) {k : Nat} (hk : k < f.s.n) : ((f.Lc (f.nd k)).s.st (f.own k) = 1 → 1 ≤ f.wl k ∧ f.wl k ≤ 10) ∧ ((f.Lc (f.nd k)).s.st (f.own k) = 3 → 1 ≤ f.wl k ∧ f.wl k ≤ 4) := by
  have a := (h.loc k hk).wt_rng (k := f.own k) (by unfold FL.lk; rw [Inn.on_s]; exact h.own k hk)
  unfold FL.lk at a
  rw [Inn.on_s, Inn.wt_on] at a
  exact a
theorem rngG (h : OrdJ f ga la H V gg Wg) {k : Nat} (hk : k < f.s.n) : (f.G.s.st (f.nd k) = 1 → 1 ≤ f.wg k ∧ f.wg k ≤ 10) ∧ (f.G.s.st (f.nd k) = 3 → 1 ≤ f.wg k ∧ f.wg k ≤ 4) := by
  have a := h.glo.wt_rng (k := f.nd k) (by unfold FL.gl; rw [Inn.on_s, h.gn]; exact h.cor.ndl k hk)
  unfold FL.gl at a
  rw [Inn.on_s, Inn.wt_on] at a
  exact a
/-- how many contexts an inner lock has -/
theorem Lc_n (f : FL) (L : Lp) (t u : Int) (c : Nat) : ((f.step L t u).Lc c).s.n = (f.Lc c).s.n := by
  have ka : ∀ t, (f.ask t).s.n = (f.Lc (f.nd t)).s.n := fun t => by
    unfold FL.ask FL.lk
    split
    · rw [Inn.lock_n, Inn.on_s]
    · rw [Inn.on_s]
  have ku : ∀ (d : Nat) (x : Inn), x.s.n = (f.Lc d).s.n → (upd f.Lc d x c).s.n = (f.Lc c).s.n := fun d x e => by
    by_cases q : c = d
    · subst q; rw [upd_same]; exact e
    · rw [upd_other _ _ q]
  show ((f.mid L t u).Lc c).s.n = _
  unfold FL.mid FL.acq FL.rel
  repeat' split
  all_goals first
    | rfl
    | exact ku _ _ ((Inn.step_n _ _ _).trans (ka _))
    | exact ku _ _ (Inn.turn_n _ _)
    | exact ku _ _ ((Inn.step_n _ _ _).trans (by unfold FL.lk; rw [Inn.on_s]))
end
end Go.Proofs.YtkmikkjjnbikdaaGreat
namespace Go.Proofs.YtkmikkjjnbikdaaGreat
set_option linter.unusedVariables false
set_option maxRecDepth 100000

/-- a call that must wait for another one -/
def HaltT (f : FL) (t : Nat) : Prop := (((f.s.st t = 1 ∧ f.ph t = 0) ∨ (f.s.st t = 3 ∧ f.ph t = 5)) ∧ (f.lk (f.nd t)).Halt (f.la (f.nd t)) (f.own t)) ∨ (((f.s.st t = 1 ∧ f.ph t = 2) ∨ (f.s.st t = 3 ∧ f.ph t = 4)) ∧ f.gl.Halt f.ga (f.nd t))
theorem wc_at {f : FL} {k : Nat} {x p : Int} (hs : f.s.st k = x) (hp : f.ph k = p) : f.wc k = wv x p (f.wl k) (f.wg k) := by unfold FL.wc; rw [hs, hp]
theorem wv10 (l g : Nat) : wv 1 0 l g = 28 + l := rfl
theorem wv11 (l g : Nat) : wv 1 1 l g = 28 := rfl
theorem wv12 (l g : Nat) : wv 1 2 l g = 17 + g := rfl
theorem wv13 (l g : Nat) : wv 1 3 l g = 16 := rfl
theorem wv30 (l g : Nat) : wv 3 0 l g = 14 := rfl
theorem wv31 (l g : Nat) : wv 3 1 l g = 13 := rfl
theorem wv32 (l g : Nat) : wv 3 2 l g = 12 := rfl
theorem wv33 (l g : Nat) : wv 3 3 l g = 12 := rfl
theorem wv34 (l g : Nat) : wv 3 4 l g = 6 + g := rfl
theorem wv35 (l g : Nat) : wv 3 5 l g = 1 + l := rfl
theorem wv00 (p : Int) (l g : Nat) : wv 0 p l g = 0 := rfl
section
variable {f f' : FL} {L : Lp} {ga : Nat} {la : Nat → Nat} {H : Nat → Option Nat} {V : Nat → List Nat} {gg : Option Nat} {Wg : List Nat}
theorem halt_keep (hs : f'.s = f.s) (hp : f'.ph = f.ph) (hn : f'.nd = f.nd) (ho : f'.own = f.own) (ha : f'.la = f.la) (hg : f'.ga = f.ga) {j : Nat} (hL : (f.lk (f.nd j)).Halt (f.la (f.nd j)) (f.own j) → (f'.lk (f.nd j)).Halt (f.la (f.nd j)) (f.own j)) (hG : f.gl.Halt f.ga (f.nd j) → f'.gl.Halt f.ga (f.nd j)) : HaltT f j → HaltT f' j := by
  unfold HaltT
  rw [hs, hp, hn, ho, ha, hg]
  rintro (⟨a, b⟩ | ⟨a, b⟩)
  · exact .inl ⟨a, hL b⟩
  · exact .inr ⟨a, hG b⟩
/-- other locks' words stay -/
theorem halt_lk {q : PSta} {c o i : Nat} (hw : sub q.ws o (f.Lc c).size = sub f.ps.ws o (f.Lc c).size) (h : (f.lk c).Halt o i) : ((f.Lc c).on q).Halt o i := by
  have := (Inn.halt_far (x := f.lk c) (q := q) (o := o) (by unfold FL.lk; rw [Inn.on_size, Inn.on_ps]; exact hw) i).2 h
  unfold FL.lk at this
  rw [Inn.on_on] at this
  exact this
theorem halt_gl {q : PSta} {o i : Nat} (hw : sub q.ws o f.G.size = sub f.ps.ws o f.G.size) (h : f.gl.Halt o i) : (f.G.on q).Halt o i := by
  have := (Inn.halt_far (x := f.gl) (q := q) (o := o) (by unfold FL.gl; rw [Inn.on_size, Inn.on_ps]; exact hw) i).2 h
  unfold FL.gl at this
  rw [Inn.on_on] at this
  exact this
/-- a step of k's node's lock from which nothing comes -/
theorem still_loc (h : OrdJ f ga la H V gg Wg) {k : Nat} (hk : k < f.s.n) (hs : f'.s = f.s) (hp : f'.ph = f.ph) (hn : f'.nd = f.nd) (ho : f'.own = f.own) (ha : f'.la = f.la) (hg : f'.ga = f.ga) {X : Inn} (hG : f'.G = f.G) (hLc : f'.Lc = upd f.Lc (f.nd k) X) (hps : f'.ps = X.ps)
    (hoff : ∀ o' n', la (f.nd k) + (f.Lc (f.nd k)).size ≤ o' ∨ o' + n' ≤ la (f.nd k) → sub X.ps.ws o' n' = sub f.ps.ws o' n') (keep : ∀ i, (f.lk (f.nd k)).Halt (la (f.nd k)) i → X.Halt (la (f.nd k)) i) : ∀ j, j < f.s.n → HaltT f j → HaltT f' j := fun j hj => by
  refine halt_keep hs hp hn ho ha hg (fun r => ?_) fun r => ?_
  · rw [h.adr.2] at r ⊢
    show ((f'.Lc (f.nd j)).on f'.ps).Halt _ _
    rw [hLc, hps]
    by_cases e : f.nd j = f.nd k
    · rw [e, upd_same, Inn.on_self]
      rw [e] at r
      exact keep _ r
    · rw [upd_other _ _ e]
      have := h.ll j k hj hk e
      exact halt_lk (hoff _ _ (by omega)) r
  · rw [h.adr.1] at r ⊢
    show (f'.G.on f'.ps).Halt _ _
    rw [hG, hps]
    have := h.gl k hk
    exact halt_gl (hoff _ _ (by omega)) r
/-- a step of the lock of all from which nothing comes -/
theorem still_glo (h : OrdJ f ga la H V gg Wg) (hs : f'.s = f.s) (hp : f'.ph = f.ph) (hn : f'.nd = f.nd) (ho : f'.own = f.own) (ha : f'.la = f.la) (hg : f'.ga = f.ga) {X : Inn} (hG : f'.G = X) (hLc : f'.Lc = f.Lc) (hps : f'.ps = X.ps)
    (hoff : ∀ o' n', ga + f.G.size ≤ o' ∨ o' + n' ≤ ga → sub X.ps.ws o' n' = sub f.ps.ws o' n') (keep : ∀ i, f.gl.Halt ga i → X.Halt ga i) : ∀ j, j < f.s.n → HaltT f j → HaltT f' j := fun j hj => by
  refine halt_keep hs hp hn ho ha hg (fun r => ?_) fun r => ?_
  · rw [h.adr.2] at r ⊢
    show ((f'.Lc (f.nd j)).on f'.ps).Halt _ _
    rw [hLc, hps]
    have := h.gl j hj
    exact halt_lk (hoff _ _ (by omega)) r
  · rw [h.adr.1] at r ⊢
    show (f'.G.on f'.ps).Halt _ _
    rw [hG, hps, Inn.on_self]
    exact keep _ r
/-- a step of a call: the lock is granted; or it is brought on; or it must wait -/
def Prog (f f' : FL) (k : Nat) (d : Dd) : Prop := (d.ev = 1 ∧ f.s.st k = 1 ∧ 15 < f.wc k) ∨ (d.ev ≠ 1 ∧ f'.wc k + 1 ≤ f.wc k) ∨ (d.ev = 0 ∧ f'.wc k = f.wc k ∧ HaltT f k ∧ f'.s = f.s ∧ ∀ j, j < f.s.n → HaltT f j → HaltT f' j)
theorem prog (h : OrdJ f ga la H V gg Wg) (h1 : L.a1 = 0) {k : Nat} (hk : k < f.s.n) (hs : f.s.st k = 1 ∨ f.s.st k = 3) (h0 : f.s.st k = 1 → f.ph k = 0 → (f.Lc (f.nd k)).s.st (f.own k) = 1) : Prog f (f.step L k k) k (f.did L k k) := by
  have hu : k < f.ps.ac.length := by rw [h.ac]; exact hk
  have hx := h.cor.cx k hk
  have hc := h.cor.ndl k hk
  have F := Stf.far h hk L k
  have far : (f.step L k k).la = f.la ∧ (f.step L k k).ga = f.ga := by
    show (f.mid L k k).la = f.la ∧ (f.mid L k k).ga = f.ga
    unfold FL.mid FL.acq FL.rel
    repeat' split
    all_goals exact ⟨rfl, rfl⟩
  have lkn : f.own k < (f.lk (f.nd k)).s.n := by rw [lk_s]; exact h.own k hk
  have lku : k < (f.lk (f.nd k)).ps.ac.length := by unfold FL.lk; rw [Inn.on_ps]; exact hu
  have gls : f.gl.s = f.G.s := Inn.on_s _
  have gln : f.nd k < f.gl.s.n := by rw [gls, h.gn]; exact hc
  have glu : k < f.gl.ps.ac.length := by unfold FL.gl; rw [Inn.on_ps]; exact hu
  have wl0 : f.wl k = (f.lk (f.nd k)).wt (f.own k) := by unfold FL.wl FL.lk; rw [Inn.wt_on]
  have wg0 : f.wg k = f.gl.wt (f.nd k) := by unfold FL.wg FL.gl; rw [Inn.wt_on]
  have stl : (f.lk (f.nd k)).s.st (f.own k) = (f.Lc (f.nd k)).s.st (f.own k) := by rw [lk_s]
  -- its node's lock is stepped
  have locs : (f.Lc (f.nd k)).s.st (f.own k) = 1 ∨ (f.Lc (f.nd k)).s.st (f.own k) = 3 → (f.step L k k).Lc = upd f.Lc (f.nd k) ((f.lk (f.nd k)).step (la (f.nd k)) (f.own k) k) → (f.step L k k).G = f.G → (f.step L k k).ps = ((f.lk (f.nd k)).step (la (f.nd k)) (f.own k) k).ps → (f.step L k k).s = f.s → (f.step L k k).ph = f.ph → (f.did L k k).ev = 0 → ((f.lk (f.nd k)).did (la (f.nd k)) (f.own k) k).ev = 0 →
      (∀ l, wv (f.s.st k) (f.ph k) l (f.wg k) = wv (f.s.st k) (f.ph k) 0 (f.wg k) + l) → ((f.s.st k = 1 ∧ f.ph k = 0) ∨ (f.s.st k = 3 ∧ f.ph k = 5)) → Prog f (f.step L k k) k (f.did L k k) := fun st eLc eG ePs es ep he hie hw hph => by
    have T := (h.loc k hk).trn lkn lku (by rw [stl]; exact st)
    obtain ⟨_, _, _, _, hoff⟩ := (h.loc k hk).step lkn lku
    have ez : (f.lk (f.nd k)).size = (f.Lc (f.nd k)).size := Inn.on_size _
    have eps : (f.lk (f.nd k)).ps = f.ps := Inn.on_ps _
    rw [ez, eps] at hoff
    have wl' : (f.step L k k).wl k = ((f.lk (f.nd k)).step (la (f.nd k)) (f.own k) k).wt (f.own k) := by unfold FL.wl; rw [F.nd, F.own, eLc, upd_same]
    have wg' : (f.step L k k).wg k = f.wg k := by unfold FL.wg; rw [F.nd, eG]
    have w1 : (f.step L k k).wc k = wv (f.s.st k) (f.ph k) 0 (f.wg k) + (f.step L k k).wl k := by unfold FL.wc; rw [es, ep, wg', hw]
    have w0 : f.wc k = wv (f.s.st k) (f.ph k) 0 (f.wg k) + f.wl k := by unfold FL.wc; rw [hw]
    rcases T.on with q | q | q | ⟨_, q2, q3, q4⟩
    · omega
    · omega
    · exact .inr (.inl ⟨by omega, by omega⟩)
    · exact .inr (.inr ⟨he, by omega, .inl ⟨hph, by rw [h.adr.2]; exact q3⟩, es, still_loc h hk es ep F.nd F.own far.1 far.2 eG eLc ePs hoff q4⟩)
  -- the lock of all is stepped
  have glos : f.G.s.st (f.nd k) = 1 ∨ f.G.s.st (f.nd k) = 3 → (f.step L k k).Lc = f.Lc → (f.step L k k).G = f.gl.step ga (f.nd k) k → (f.step L k k).ps = (f.gl.step ga (f.nd k) k).ps → (f.step L k k).s = f.s → (f.step L k k).ph = f.ph → (f.did L k k).ev = 0 → (f.gl.did ga (f.nd k) k).ev = 0 →
      (∀ g, wv (f.s.st k) (f.ph k) (f.wl k) g = wv (f.s.st k) (f.ph k) (f.wl k) 0 + g) → ((f.s.st k = 1 ∧ f.ph k = 2) ∨ (f.s.st k = 3 ∧ f.ph k = 4)) → Prog f (f.step L k k) k (f.did L k k) := fun st eLc eG ePs es ep he hie hw hph => by
    have T := h.glo.trn gln glu (by rw [gls]; exact st)
    obtain ⟨_, _, _, _, hoff⟩ := h.glo.step gln glu
    have ez : f.gl.size = f.G.size := Inn.on_size _
    have eps : f.gl.ps = f.ps := Inn.on_ps _
    rw [ez, eps] at hoff
    have wg' : (f.step L k k).wg k = (f.gl.step ga (f.nd k) k).wt (f.nd k) := by unfold FL.wg; rw [F.nd, eG]
    have wl' : (f.step L k k).wl k = f.wl k := by unfold FL.wl; rw [F.nd, F.own, eLc]
    have w1 : (f.step L k k).wc k = wv (f.s.st k) (f.ph k) (f.wl k) 0 + (f.step L k k).wg k := by unfold FL.wc; rw [es, ep, wl', hw]
    have w0 : f.wc k = wv (f.s.st k) (f.ph k) (f.wl k) 0 + f.wg k := by unfold FL.wc; rw [hw]
    rcases T.on with q | q | q | ⟨_, q2, q3, q4⟩
    · omega
    · omega
    · exact .inr (.inl ⟨by omega, by omega⟩)
    · exact .inr (.inr ⟨he, by omega, .inr ⟨hph, by rw [h.adr.1]; exact q3⟩, es, still_glo h es ep F.nd F.own far.1 far.2 eG eLc ePs hoff q4⟩)
  by_cases s1 : f.s.st k = 1
  · have hp : f.ph k = 0 ∨ f.ph k = 1 ∨ f.ph k = 2 ∨ f.ph k = 3 := by cases hx <;> omega
    rcases hp with p | p | p | p
    · have l1 := h0 s1 p
      have hask : f.ask k = f.lk (f.nd k) := by unfold FL.ask; rw [if_neg (by omega)]
      have em := (OrdJ.at_one (L := L) (u := (k : Int)) hk s1).2
      obtain ⟨W', st, hd, es, ⟨e0, a, ep⟩ | ⟨e1, hH, a, ep⟩⟩ := h.stpL0 hk hu s1 p
      · rw [hask] at e0
        refine locs (.inl l1) ?_ ?_ ?_ es ep (by rw [hd]) e0 (fun l => by rw [s1, p, wv10, wv10]) (.inl ⟨s1, p⟩)
        · show (f.mid L k k).Lc = _
          rw [em]; unfold FL.acq; rw [if_pos p, hask, h.adr.2]
        · show (f.mid L k k).G = _
          rw [em]; unfold FL.acq; rw [if_pos p]
        · show (f.mid L k k).ps = _
          rw [em]; unfold FL.acq; rw [if_pos p, hask, h.adr.2]
      · refine .inr (.inl ⟨by rw [hd]; exact (show (0 : Int) ≠ 1 by decide), ?_⟩)
        rw [wc_at s1 p, wv10, wc_at (show (f.step L k k).s.st k = 1 by rw [es]; exact s1) (show (f.step L k k).ph k = 1 by rw [ep, upd_same]), wv11]
        have := (rngL h hk).1 l1
        omega
    · by_cases hw : wP f.ps (f.nd k) = 0
      · obtain ⟨hd, a, es, ep⟩ := h.stpL1b h1 hk hu s1 p hw
        have s' : (f.step L k k).s.st k = 1 := by rw [es]; exact s1
        have p' : (f.step L k k).ph k = 2 := by rw [ep, upd_same]
        refine .inr (.inl ⟨by rw [hd]; exact (show (0 : Int) ≠ 1 by decide), ?_⟩)
        rw [wc_at s1 p, wv11, wc_at s' p', wv12]
        have hk' : k < (f.step L k k).s.n := by rw [F.n]; exact hk
        have hx' := a.cor.cx k hk'
        have := (rngG a hk').1 (by cases hx' <;> omega)
        omega
      · obtain ⟨hd, a, es, ep⟩ := h.stpL1a h1 hk hu s1 p hw
        exact .inl ⟨by rw [hd], s1, by rw [wc_at s1 p, wv11]; decide⟩
    · obtain ⟨gg', Wg', hd, a, st, es, ep, ev⟩ := h.stpL2 hk hu s1 p
      have em := (OrdJ.at_one (L := L) (u := (k : Int)) hk s1).2
      rcases ev with e0 | e1
      · refine glos (.inl (by cases hx <;> omega)) ?_ ?_ ?_ es (by rw [ep, e0]; exact upd_idx _ _ p) (by rw [hd]) e0 (fun g => by rw [s1, p, wv12, wv12]) (.inl ⟨s1, p⟩)
        · show (f.mid L k k).Lc = _
          rw [em]; unfold FL.acq; rw [if_neg (by omega), if_neg (by omega), if_pos p]
        · show (f.mid L k k).G = _
          rw [em]; unfold FL.acq; rw [if_neg (by omega), if_neg (by omega), if_pos p, h.adr.1]
        · show (f.mid L k k).ps = _
          rw [em]; unfold FL.acq; rw [if_neg (by omega), if_neg (by omega), if_pos p, h.adr.1]
      · refine .inr (.inl ⟨by rw [hd]; exact (show (0 : Int) ≠ 1 by decide), ?_⟩)
        rw [wc_at s1 p, wv12, wc_at (show (f.step L k k).s.st k = 1 by rw [es]; exact s1) (show (f.step L k k).ph k = 3 by rw [ep, upd_same, e1]; rfl), wv13]
        omega
    · obtain ⟨hd, a, es, ep⟩ := h.stpL3 h1 hk hu s1 p
      exact .inl ⟨by rw [hd], s1, by rw [wc_at s1 p, wv13]; decide⟩
  · have s3 : f.s.st k = 3 := by omega
    have hp : f.ph k = 0 ∨ f.ph k = 1 ∨ f.ph k = 2 ∨ f.ph k = 3 ∨ f.ph k = 4 ∨ f.ph k = 5 := by cases hx <;> omega
    have em := (OrdJ.at_three (L := L) (u := (k : Int)) hk s3).2
    have hk' : k < (f.step L k k).s.n := by rw [F.n]; exact hk
    have s' : (f.step L k k).s = f.s → (f.step L k k).s.st k = 3 := fun e => by rw [e]; exact s3
    rcases hp with p | p | p | p | p | p
    · by_cases hw : wP f.ps (f.nd k) < f.bud
      · obtain ⟨hd, a, es, ep⟩ := h.stpU0a h1 hk hu s3 p hw
        refine .inr (.inl ⟨by rw [hd]; exact (show (0 : Int) ≠ 1 by decide), ?_⟩)
        rw [wc_at s3 p, wv30, wc_at (s' es) (by rw [ep, upd_same]), wv31]
        decide
      · obtain ⟨hd, a, es, ep⟩ := h.stpU0b h1 hk hu s3 p hw
        refine .inr (.inl ⟨by rw [hd]; exact (show (0 : Int) ≠ 1 by decide), ?_⟩)
        rw [wc_at s3 p, wv30, wc_at (s' es) (by rw [ep, upd_same]), wv33]
        decide
    · obtain ⟨x, x23, hd, a, es, ep⟩ := h.stpU1 hk hu s3 p
      refine .inr (.inl ⟨by rw [hd]; exact (show (0 : Int) ≠ 1 by decide), ?_⟩)
      rw [wc_at s3 p, wv31, wc_at (s' es) (by rw [ep, upd_same])]
      rcases x23 with rfl | rfl
      · rw [wv32]; decide
      · rw [wv33]; decide
    · obtain ⟨hd, a, es, ep⟩ := h.stpU2 h1 hk hu s3 p
      have p' : (f.step L k k).ph k = 5 := by rw [ep, upd_same]
      refine .inr (.inl ⟨by rw [hd]; exact (show (0 : Int) ≠ 1 by decide), ?_⟩)
      rw [wc_at s3 p, wv32, wc_at (s' es) p', wv35]
      have hx' := a.cor.cx k hk'
      have e3 := s' es
      have := (rngL a hk').2 (by cases hx' <;> omega)
      omega
    · obtain ⟨hd, a, es, ep⟩ := h.stpU3 h1 hk hu s3 p
      have p' : (f.step L k k).ph k = 4 := by rw [ep, upd_same]
      refine .inr (.inl ⟨by rw [hd]; exact (show (0 : Int) ≠ 1 by decide), ?_⟩)
      rw [wc_at s3 p, wv33, wc_at (s' es) p', wv34]
      have hx' := a.cor.cx k hk'
      have e3 := s' es
      have := (rngG a hk').2 (by cases hx' <;> omega)
      omega
    · have g3 : f.G.s.st (f.nd k) = 3 := by cases hx <;> omega
      obtain ⟨gg', hd, a, es, ⟨e0, ep⟩ | ⟨e3, ep⟩⟩ := h.stpU4 hk hu s3 p
      · have n3 : ¬ (f.gl.did ga (f.nd k) k).ev = 3 := by omega
        refine glos (.inr g3) ?_ ?_ ?_ es ep (by rw [hd]; rfl) e0 (fun g => by rw [s3, p, wv34, wv34]) (.inr ⟨s3, p⟩)
        · show (f.mid L k k).Lc = _
          rw [em]; unfold FL.rel; rw [if_neg (by omega), if_neg (by omega), if_neg (by omega), if_neg (by omega), if_pos p, h.adr.1, if_neg n3]
        · show (f.mid L k k).G = _
          rw [em]; unfold FL.rel; rw [if_neg (by omega), if_neg (by omega), if_neg (by omega), if_neg (by omega), if_pos p, h.adr.1, if_neg n3]
        · show (f.mid L k k).ps = _
          rw [em]; unfold FL.rel; rw [if_neg (by omega), if_neg (by omega), if_neg (by omega), if_neg (by omega), if_pos p, h.adr.1, if_neg n3]
      · have p' : (f.step L k k).ph k = 5 := by rw [ep, upd_same]
        refine .inr (.inl ⟨by rw [hd]; exact (show (0 : Int) ≠ 1 by decide), ?_⟩)
        rw [wc_at s3 p, wv34, wc_at (s' es) p', wv35]
        have hx' := a.cor.cx k hk'
        have e3 := s' es
        have q1 := (rngL a hk').2 (by cases hx' <;> omega)
        have q2 := (rngG h hk).2 g3
        omega
    · have l3 : (f.Lc (f.nd k)).s.st (f.own k) = 3 := by cases hx <;> omega
      have ed := (OrdJ.at_three (L := L) (u := (k : Int)) hk s3).1
      rcases h.stpU5 hk hu s3 p with ⟨hd, a, es, ep⟩ | ⟨hd, a, es, ep⟩
      · have ie : ((f.lk (f.nd k)).did (la (f.nd k)) (f.own k) k).ev = 0 := by
          rw [hd] at ed
          have := congrArg Dd.ev ed
          unfold FL.relD at this
          rw [if_neg (by omega), if_neg (by omega), if_neg (by omega), if_neg (by omega), if_neg (by omega), h.adr.2] at this
          exact this.symm
        refine locs (.inr l3) ?_ ?_ ?_ es ep (by rw [hd]; rfl) ie (fun l => by rw [s3, p, wv35, wv35]) (.inr ⟨s3, p⟩)
        · show (f.mid L k k).Lc = _
          rw [em]; unfold FL.rel; rw [if_neg (by omega), if_neg (by omega), if_neg (by omega), if_neg (by omega), if_neg (by omega), h.adr.2]
        · show (f.mid L k k).G = _
          rw [em]; unfold FL.rel; rw [if_neg (by omega), if_neg (by omega), if_neg (by omega), if_neg (by omega), if_neg (by omega)]
        · show (f.mid L k k).ps = _
          rw [em]; unfold FL.rel; rw [if_neg (by omega), if_neg (by omega), if_neg (by omega), if_neg (by omega), if_neg (by omega), h.adr.2]
      · refine .inr (.inl ⟨by rw [hd]; exact (show (3 : Int) ≠ 1 by decide), ?_⟩)
        rw [wc_at s3 p, wv35, wc_at (show (f.step L k k).s.st k = 0 by rw [es]; exact upd_same _ _ _) rfl, wv00]
        have := (rngL h hk).2 l3
        omega
end
end Go.Proofs.YtkmikkjjnbikdaaGreat
namespace Go.Proofs.YtkmikkjjnbikdaaGreat
set_option linter.unusedVariables false
set_option maxRecDepth 100000

theorem cntN_onto (hN : Nat → Nat) (c : Nat) : ∀ n j, j < cntN hN c n → ∃ t, t < n ∧ hN t = c ∧ cntN hN c t = j
  | 0, j, h => absurd h (Nat.not_lt_zero _)
  | n + 1, j, h => by
    have e : cntN hN c (n + 1) = cntN hN c n + (if hN n = c then 1 else 0) := rfl
    by_cases q : j < cntN hN c n
    · obtain ⟨t, a, b, d⟩ := cntN_onto hN c n j q
      exact ⟨t, by omega, b, d⟩
    · by_cases hc : hN n = c
      · rw [if_pos hc] at e
        exact ⟨n, by omega, hc, by omega⟩
      · rw [if_neg hc] at e
        omega
theorem Inn.Halt_st {x : Inn} {o k : Nat} (h : x.Halt o k) : x.s.st k = 1 ∨ x.s.st k = 3 := by
  cases x with
  | tk f => exact .inl h.1
  | cl f => exact .inl h.1
  | mc f => exact h.imp (fun q => q.1) fun q => q.1
/-- all that is known of it -/
def OrdT (f : FL) : Prop := ∃ (zs : List Int) (B : Int) (q : Nat → List Nat) (row node : Int), OrdR f zs B q row node ∧ (∀ t, t < f.s.n → zs.getD t 0 = (hNo zs t : Nat)) ∧ ∀ t, t < f.s.n → ∀ j, j < (f.Lc (f.nd t)).s.n → ∃ u, u < f.s.n ∧ f.nd u = f.nd t ∧ f.own u = j
namespace OrdT
variable {f : FL} {L : Lp}
theorem lock (h : OrdT f) (t d : Int) : OrdT (f.lock t d) := by
  obtain ⟨zs, B, q, row, node, h, h2, h3⟩ := h
  have e : (f.lock t d).s.n = f.s.n := SS.lock_n _ _ _
  exact ⟨zs, B, q, row, node, h.lock t d, fun t ht => h2 t (by rw [← e]; exact ht), fun t ht j hj => by rw [e]; exact h3 t (by rw [← e]; exact ht) j hj⟩
theorem unlock (h : OrdT f) (t : Int) : OrdT (f.turn t 3) := by
  obtain ⟨zs, B, q, row, node, h, h2, h3⟩ := h
  have e : (f.turn t 3).s.n = f.s.n := SS.turn_n _ _ _
  exact ⟨zs, B, q, row, node, h.unlock t, fun t ht => h2 t (by rw [← e]; exact ht), fun t ht j hj => by rw [e]; exact h3 t (by rw [← e]; exact ht) j hj⟩
theorem step (h : OrdT f) (h1 : L.a1 = 0) {k : Nat} (hk : k < f.s.n) : OrdT (f.step L k k) ∧ (f.step L k k).ps.D.length ≤ f.ps.D.length + 1 := by
  obtain ⟨zs, B, q, row, node, h, h2, h3⟩ := h
  have e : (f.step L k k).s.n = f.s.n := f.s.fin_n _ _
  obtain ⟨e1, e2, e3, e4⟩ := f.mid_s L k k
  have en : (f.step L k k).nd = f.nd := e2
  have eo : (f.step L k k).own = f.own := e3
  obtain ⟨a, b⟩ := h.step (L := L) h1 (k := k) (by rw [← h.size]; exact hk) (h2 k hk)
  refine ⟨?_, a⟩
  have r2 : ∀ t, t < (f.step L k k).s.n → zs.getD t 0 = (hNo zs t : Nat) := fun t ht => h2 t (by rw [← e]; exact ht)
  have r3 : ∀ t, t < (f.step L k k).s.n → ∀ j, j < ((f.step L k k).Lc ((f.step L k k).nd t)).s.n → ∃ u, u < (f.step L k k).s.n ∧ (f.step L k k).nd u = (f.step L k k).nd t ∧ (f.step L k k).own u = j := fun t ht j hj => by
    rw [Lc_n, en] at hj
    rw [e, en, eo]
    exact h3 t (by rw [← e]; exact ht) j hj
  cases b with
  | same _ _ x => exact ⟨_, _, _, _, _, x, r2, r3⟩
  | enq _ _ _ _ x => exact ⟨_, _, _, _, _, x, r2, r3⟩
  | lead _ _ _ _ x => exact ⟨_, _, _, _, _, x, r2, r3⟩
  | next _ _ _ _ _ _ x => exact ⟨_, _, _, _, _, x, r2, r3⟩
theorem ordJ (h : OrdT f) : ∃ H V gg Wg q, OrdJ f f.ga f.la H V gg Wg ∧ Que f V q := by
  obtain ⟨zs, B, q, row, node, ⟨H, V, gg, Wg, h, hq, _⟩, _⟩ := h
  exact ⟨H, V, gg, Wg, q, h, hq⟩
theorem n8 (h : OrdT f) : f.s.n ≤ 8 := by
  obtain ⟨H, V, gg, Wg, q, h, _⟩ := h.ordJ
  exact h.n8
theorem start {zs : List Int} {n : Nat} {G K B : Int} (hl : zs.length = n) (n8 : n ≤ 8) (ho : homesOK zs = true) (hB : 1 ≤ B ∧ B ≤ 1000) : OrdT (newC zs n G K B n) := by
  refine ⟨zs, B, _, _, _, OrdR.start hl n8 ho hB, fun t ht => (hNo_of hl ho t ht).1, fun t ht j hj => ?_⟩
  have hj : j < cntN (hNo zs) (hNo zs t) n := by
    have e : ((newC zs n G K B n).Lc ((newC zs n G K B n).nd t)).s.n = cntN (hNo zs) (hNo zs t) n := by
      show (newInn K (cntN (hNo zs) (hNo zs t) n) _).s.n = _
      rw [newInn_s]
      rfl
    rw [e] at hj
    exact hj
  obtain ⟨u, a, b, d⟩ := cntN_onto (hNo zs) (hNo zs t) n j hj
  refine ⟨u, a, b, ?_⟩
  show cntN (hNo zs) (hNo zs u) u = j
  rw [b]; exact d
end OrdT
/-- if nobody can go on, all are Idle -/
theorem all_idle {f : FL} (hT : OrdT f) (hs : ∀ k, k < f.s.n → f.s.st k = 0 ∨ HaltT f k) : ∀ k, k < f.s.n → f.s.st k = 0 := by
  obtain ⟨zs, B, q, row, node, ⟨H, V, gg, Wg, h, hq, _⟩, _, onto⟩ := hT
  -- of a node's lock, all calls must wait
  have haL : ∀ t, t < f.s.n → ∀ j, j < (f.lk (f.nd t)).s.n → ((f.lk (f.nd t)).s.st j = 1 ∨ (f.lk (f.nd t)).s.st j = 3) → (f.lk (f.nd t)).Halt (f.la (f.nd t)) j := fun t ht j hj hst => by
    rw [lk_s] at hj hst
    obtain ⟨u, u1, u2, rfl⟩ := onto t ht j hj
    rw [← u2] at hst ⊢
    have hx := h.cor.cx u u1
    rcases hs u u1 with s0 | ⟨_, r⟩ | ⟨r, _⟩
    · cases hx <;> omega
    · exact r
    · cases hx <;> omega
  -- of the lock of all, too
  have haG : ∀ c, c < f.gl.s.n → (f.gl.s.st c = 1 ∨ f.gl.s.st c = 3) → f.gl.Halt f.ga c := fun c hc hst => by
    have es : f.gl.s = f.G.s := Inn.on_s _
    rw [es] at hst hc
    rw [h.gn] at hc
    cases hH : H c with
    | none => rcases h.cor.nob c hc hH with ⟨_, b⟩ | ⟨_, _, b, _⟩ <;> omega
    | some j =>
      obtain ⟨hl, t, ht, rfl, rfl⟩ := h.cor.held c j hH
      have hl : 2 ≤ (f.Lc (f.nd t)).s.st (f.own t) := hl
      have hx := h.cor.cx t ht
      rcases hs t ht with s0 | ⟨r, _⟩ | ⟨_, r⟩
      · cases hx <;> omega
      · cases hx <;> omega
      · exact r
  have noG : ∀ c, c < 8 → ¬ (f.G.s.st c = 1 ∨ f.G.s.st c = 3) := fun c hc hst => by
    have es : f.gl.s = f.G.s := Inn.on_s _
    obtain ⟨c', g1, g2⟩ := h.glo.rests haG (k := c) (by rw [es, h.gn]; exact hc) (by rw [es]; exact hst)
    have qf := h.glo.qf
    have hc' : c' < 8 := by
      have := qf.lt c' (by rw [g1]; simp)
      rw [es, h.gn] at this; exact this
    have sg := qf.stg c' g1
    rw [es] at sg g2
    cases hH : H c' with
    | none =>
      rcases h.cor.nob c' hc' hH with ⟨_, b⟩ | ⟨_, _, b, hv⟩
      · omega
      · obtain ⟨F, e, _⟩ := hq.own c'
        have hne : q c' ≠ [] := fun x => by
          rw [x] at e
          have := (List.append_eq_nil_iff.1 e.symm).2
          exact hv this
        obtain ⟨t, ht⟩ := List.exists_mem_of_ne_nil _ hne
        obtain ⟨t1, rfl⟩ := hq.mem c' t ht
        obtain ⟨j, hj⟩ := List.exists_mem_of_ne_nil _ hv
        have ql := (h.loc t t1).qf
        have sj := ql.stw j hj
        obtain ⟨j', e1, _⟩ := (h.loc t t1).rests (haL t t1) (ql.lt j (List.mem_append_right _ hj)) (.inl sj)
        rw [hH] at e1; cases e1
    | some j =>
      obtain ⟨hl, t, ht, rfl, rfl⟩ := h.cor.held c' j hH
      have hl : 2 ≤ (f.Lc (f.nd t)).s.st (f.own t) := hl
      have hx := h.cor.cx t ht
      rcases hs t ht with s0 | ⟨r, _⟩ | ⟨r, _⟩
      · cases hx <;> omega
      · have l3 : (f.Lc (f.nd t)).s.st (f.own t) = 3 := by cases hx <;> omega
        obtain ⟨j', e1, e2⟩ := (h.loc t ht).rests (haL t ht) (k := f.own t) (by rw [lk_s]; exact h.own t ht) (.inr (by rw [lk_s]; exact l3))
        rw [hH] at e1
        rw [lk_s, ← Option.some.inj e1] at e2
        exact e2 l3
      · cases hx <;> omega
  have noL : ∀ t, t < f.s.n → ¬ ((f.Lc (f.nd t)).s.st (f.own t) = 1 ∨ (f.Lc (f.nd t)).s.st (f.own t) = 3) := fun t ht hst => by
    obtain ⟨j', e1, e2⟩ := (h.loc t ht).rests (haL t ht) (k := f.own t) (by rw [lk_s]; exact h.own t ht) (by rw [lk_s]; exact hst)
    obtain ⟨hl, u, u1, u2, rfl⟩ := h.cor.held _ _ e1
    rw [lk_s] at e2
    rw [← u2] at hl e2
    have hl : 2 ≤ (f.Lc (f.nd u)).s.st (f.own u) := hl
    have hx := h.cor.cx u u1
    have hg := noG _ (h.cor.ndl u u1)
    rcases hs u u1 with s0 | ⟨r, _⟩ | ⟨r, _⟩
    · cases hx <;> omega
    · cases hx <;> omega
    · cases hx <;> omega
  intro k hk
  have hx := h.cor.cx k hk
  have hg := noG _ (h.cor.ndl k hk)
  have hl := noL k hk
  rcases hs k hk with s0 | ⟨r, r2⟩ | ⟨r, _⟩
  · exact s0
  · have := Inn.Halt_st r2
    rw [lk_s] at this
    exact absurd this hl
  · cases hx <;> omega
/-- where all are Idle, nobody's time is left over -/
theorem none_left {f : FL} (hT : OrdT f) (hs : ∀ k, k < f.s.n → f.s.st k = 0) : 8 ≤ f.ps.ws.length ∧ ∀ c, c < 8 → f.ps.ws.getD c 0 = 0 := by
  obtain ⟨zs, B, q, row, node, ⟨H, V, gg, Wg, h, hq, _⟩, _, onto⟩ := hT
  refine ⟨h.wl, fun c hc => ?_⟩
  have key : wP f.ps c = 0 := by
    have l0 : ∀ u, u < f.s.n → (f.Lc (f.nd u)).s.st (f.own u) = 0 := fun u hu => by
      have hx := h.cor.cx u hu
      have := hs u hu
      cases hx <;> omega
    cases hH : H c with
    | none =>
      rcases h.cor.nob c hc hH with ⟨b, _⟩ | ⟨_, _, b, hv⟩
      · exact b
      · exfalso
        obtain ⟨F, e, _⟩ := hq.own c
        have hne : q c ≠ [] := fun x => by
          rw [x] at e
          exact hv (List.append_eq_nil_iff.1 e.symm).2
        obtain ⟨t, ht⟩ := List.exists_mem_of_ne_nil _ hne
        obtain ⟨t1, rfl⟩ := hq.mem c t ht
        obtain ⟨j, hj⟩ := List.exists_mem_of_ne_nil _ hv
        have ql := (h.loc t t1).qf
        have sj := ql.stw j hj
        have lj := ql.lt j (List.mem_append_right _ hj)
        rw [lk_s] at sj lj
        obtain ⟨u, u1, u2, rfl⟩ := onto t t1 j lj
        have := l0 u u1
        rw [u2] at this
        omega
    | some j =>
      exfalso
      obtain ⟨hl, t, ht, rfl, rfl⟩ := h.cor.held c j hH
      have hl : 2 ≤ (f.Lc (f.nd t)).s.st (f.own t) := hl
      have := l0 t ht
      omega
  unfold wP at key
  rw [if_pos hc] at key
  exact key

/-- nothing to do, or another one must come on -/
def Stuck (f : FL) (left : Nat → Nat) (k : Nat) : Prop := (f.s.st k = 0 ∧ left k = 0) ∨ (k < f.s.n ∧ HaltT f k)
/-- is there anything to do? -/
def Busy (f : FL) (left : Nat → Nat) (k : Nat) : Prop := 0 < left k ∨ f.s.st k ≠ 0
structure SvI (f : FL) (c : Nat) (left grants : Nat → Nat) : Prop where
  ord : OrdT f
  stx : ∀ k, k < f.s.n → f.s.st k = 0 ∨ (f.s.st k = 1 ∧ (f.ph k = 0 → (f.Lc (f.nd k)).s.st (f.own k) = 1)) ∨ f.s.st k = 3
  cnt : ∀ k, k < f.s.n → grants k + left k + (if f.s.st k = 1 then 1 else 0) = c
theorem SvI.start {f : FL} {c : Nat} {left grants : Nat → Nat} (hO : OrdT f) (hst : ∀ k, f.s.st k = 0) (hc : ∀ k, k < f.s.n → grants k + left k + (if f.s.st k = 1 then 1 else 0) = c) : SvI f c left grants := ⟨hO, fun k _ => .inl (hst k), hc⟩
theorem SvI.at_idle {f : FL} {c : Nat} {left grants : Nat → Nat} {L : Lp} (h : SvI f c left grants) {k : Nat} (hk : k < f.s.n) (s0 : f.s.st k = 0) : f.did L k k = Dd.no :=
  (OrdJ.at_idle hk (by omega) (by omega) (by omega)).1
theorem st_set (s : SS) (k : Nat) (x d : Int) (j : Nat) : (s.set k x d).st j = upd s.st k x j := rfl
/-- a call at its node's lock stays there until it has it -/
theorem ask_st {f : FL} {ga : Nat} {la : Nat → Nat} {H : Nat → Option Nat} {V : Nat → List Nat} {gg : Option Nat} {Wg : List Nat} (h : OrdJ f ga la H V gg Wg) {k : Nat} (hk : k < f.s.n) (s1 : f.s.st k = 1) (p : f.ph k = 0) : (f.ask k).s.st (f.own k) = 1 := by
  have hx := h.cor.cx k hk
  have hl : (f.Lc (f.nd k)).s.st (f.own k) = 0 ∨ (f.Lc (f.nd k)).s.st (f.own k) = 1 := by cases hx <;> omega
  unfold FL.ask
  rcases hl with e | e
  · rw [if_pos e, Inn.lock_s, lk_s, lock_st (h.own k hk) e, upd_same]
  · rw [if_neg (by omega), lk_s]; exact e
theorem L0_st {f : FL} {L : Lp} {ga : Nat} {la : Nat → Nat} {H : Nat → Option Nat} {V : Nat → List Nat} {gg : Option Nat} {Wg : List Nat} (h : OrdJ f ga la H V gg Wg) {k : Nat} (hk : k < f.s.n) (s1 : f.s.st k = 1) (p : f.ph k = 0) (e0 : ((f.ask k).did (la (f.nd k)) (f.own k) k).ev = 0) :
    ((f.step L k k).Lc ((f.step L k k).nd k)).s.st ((f.step L k k).own k) = 1 := by
  have F := Stf.far h hk L k
  have em := (OrdJ.at_one (L := L) (u := (k : Int)) hk s1).2
  have eLc : (f.step L k k).Lc = upd f.Lc (f.nd k) ((f.ask k).step (la (f.nd k)) (f.own k) k) := by
    show (f.mid L k k).Lc = _
    rw [em]; unfold FL.acq; rw [if_pos p, h.adr.2]
  have a1 := ask_st h hk s1 p
  rw [F.nd, F.own, eLc, upd_same, Inn.step_s, e0, (fin_none' (by rw [a1]; rfl)).1]
  exact a1
theorem todo_upd {f f' : FL} {left left' : Nat → Nat} {k : Nat} (hk : k < f.s.n) (hn : f'.s.n = f.s.n) (hw : ∀ j, j < f.s.n → j ≠ k → f'.wc j = f.wc j) (hl : ∀ j, j ≠ k → left' j = left j) :
    todo f' left' + wgt f left k = todo f left + wgt f' left' k := by
  unfold todo
  rw [hn]
  exact sumN_upd hk fun j hj e => by unfold wgt; rw [hw j hj e, hl j e]
/-- one calls, and does its first step -/
theorem SvI.calls {f : FL} {c : Nat} {left grants : Nat → Nat} {L : Lp} (h : SvI f c left grants) (h1 : L.a1 = 0) {k : Nat} (hk : k < f.s.n) (s0 : f.s.st k = 0) (hl : 0 < left k) :
    lockE f.s k (-1) = 0 ∧ (∃ b, (f.lock k (-1)).did L k k = ⟨0, b, false, false⟩) ∧ SvI ((f.lock k (-1)).step L k k) c (upd left k (left k - 1)) grants ∧
      todo ((f.lock k (-1)).step L k k) (upd left k (left k - 1)) + 1 ≤ todo f left ∧ ((f.lock k (-1)).step L k k).s = f.s.set k 1 (-1) ∧ ((f.lock k (-1)).step L k k).ps.D.length ≤ f.ps.D.length + 1 := by
  have el : lockE f.s k (-1) = 0 := by unfold lockE; rw [if_pos ⟨by omega, .inl rfl⟩, Int.toNat_natCast, if_pos s0]
  have ef : f.lock k (-1) = { f with s := f.s.set k 1 (-1) } := by unfold FL.lock SS.lock; rw [if_pos el, Int.toNat_natCast]
  have ho1 := h.ord.lock k (-1)
  obtain ⟨H0, V0, gg0, Wg0, q0, hJ0, _⟩ := h.ord.ordJ
  have p0 : f.ph k = 0 := by have hx := hJ0.cor.cx k hk; cases hx <;> omega
  rw [ef] at ho1 ⊢
  obtain ⟨F, hF⟩ : ∃ F : FL, F = { f with s := f.s.set k 1 (-1) } := ⟨_, rfl⟩
  rw [← hF] at ho1 ⊢
  have Fs : F.s = f.s.set k 1 (-1) := by rw [hF]
  have Fn : F.s.n = f.s.n := by rw [Fs]; rfl
  have hkF : k < F.s.n := by omega
  have s1 : F.s.st k = 1 := by rw [Fs]; exact upd_same _ _ _
  have pF : F.ph k = 0 := by rw [hF]; exact p0
  obtain ⟨H, V, gg, Wg, q, hJ, _⟩ := ho1.ordJ
  have hu : k < F.ps.ac.length := by rw [hJ.ac]; exact hkF
  obtain ⟨ho2, hD⟩ := ho1.step (L := L) h1 hkF
  have S := Stf.far hJ hkF L k
  obtain ⟨W', st, hd, es, alt⟩ := hJ.stpL0 (L := L) hkF hu s1 pF
  have hk2 : k < (F.step L k k).s.n := by rw [S.n]; exact hkF
  have st1 : (F.step L k k).s.st k = 1 := by rw [es]; exact s1
  have wk : (F.step L k k).wc k ≤ 38 ∧ ((F.step L k k).ph k = 0 → ((F.step L k k).Lc ((F.step L k k).nd k)).s.st ((F.step L k k).own k) = 1) := by
    rcases alt with ⟨e0, a, ep⟩ | ⟨e1, _, a, ep⟩
    · have l1 := L0_st (L := L) hJ hkF s1 pF e0
      rw [wc_at st1 (show (F.step L k k).ph k = 0 by rw [ep]; exact pF), wv10]
      have := (rngL a hk2).1 l1
      exact ⟨by omega, fun _ => l1⟩
    · have p1 : (F.step L k k).ph k = 1 := by rw [ep, upd_same]
      rw [wc_at st1 p1, wv11]
      exact ⟨by decide, fun x => by omega⟩
  refine ⟨el, ⟨_, hd⟩, ⟨ho2, fun j hj => ?_, fun j hj => ?_⟩, ?_, es.trans Fs, ?_⟩
  · rw [S.n] at hj
    by_cases e : j = k
    · subst e; exact .inr (.inl ⟨st1, wk.2⟩)
    · have := h.stx j (by omega)
      have e1 : F.s.st j = f.s.st j := by rw [Fs]; exact upd_other _ _ e
      have e2 : F.ph j = f.ph j := by rw [hF]
      have e3 : F.ll j = f.ll j := by rw [hF]; rfl
      have e4 := S.ll j hj e
      rw [S.st j e, S.ph j e, e1, e2]
      rcases this with x | ⟨x, y⟩ | x
      · exact .inl x
      · exact .inr (.inl ⟨x, fun z => (e4.trans e3).trans (y z)⟩)
      · exact .inr (.inr x)
  · rw [S.n] at hj
    have := h.cnt j (by omega)
    by_cases e : j = k
    · subst e
      rw [upd_same, st1, if_pos rfl]
      rw [s0, if_neg (by decide)] at this
      omega
    · rw [upd_other _ _ e, S.st j e, show F.s.st j = f.s.st j by rw [Fs]; exact upd_other _ _ e]; exact this
  · have ht := todo_upd (f := f) (f' := F.step L k k) (left := left) (left' := upd left k (left k - 1)) hk (by rw [S.n]; exact Fn) (fun j hj e => by
      rw [oth_wc hJ hkF (by omega) e]
      unfold FL.wc FL.wl FL.wg
      rw [show F.s.st j = f.s.st j by rw [Fs]; exact upd_other _ _ e, hF]) (fun j e => upd_other _ _ e)
    have w1 : wgt (F.step L k k) (upd left k (left k - 1)) k ≤ 40 * (left k - 1) + 38 := by
      unfold wgt
      rw [upd_same]
      have := wk.1
      omega
    have w0 : wgt f left k = 40 * left k := by unfold wgt; rw [wc_at s0 p0, wv00]; rfl
    omega
  · have e : F.ps = f.ps := by rw [hF]
    rw [e] at hD
    exact hD
/-- what a step of a call tells -/
theorem ev_one {f : FL} {L : Lp} {k : Nat} (hk : k < f.s.n) (s1 : f.s.st k = 1) : (f.did L k k).ev = 0 ∨ ∃ b, f.did L k k = ⟨1, false, false, b⟩ := by
  rw [(OrdJ.at_one (L := L) (u := (k : Int)) hk s1).1]
  unfold FL.acqD
  split
  · exact .inl rfl
  · split
    · split
      · exact .inl rfl
      · exact .inr ⟨_, rfl⟩
    · split
      · exact .inl rfl
      · exact .inr ⟨_, rfl⟩
theorem ev_three {f : FL} {L : Lp} {ga : Nat} {la : Nat → Nat} {H : Nat → Option Nat} {V : Nat → List Nat} {gg : Option Nat} {Wg : List Nat} (h : OrdJ f ga la H V gg Wg) {k : Nat} (hk : k < f.s.n) (s3 : f.s.st k = 3) : (f.did L k k).ev = 0 ∨ (f.did L k k).ev = 3 := by
  rw [(OrdJ.at_three (L := L) (u := (k : Int)) hk s3).1]
  have hx := h.cor.cx k hk
  unfold FL.relD
  split
  · exact .inl rfl
  · split
    · exact .inl rfl
    · split
      · exact .inl rfl
      · split
        · exact .inl rfl
        · split
          · exact .inl rfl
          · have l3 : (f.Lc (f.nd k)).s.st (f.own k) = 3 := by cases hx <;> omega
            exact ((Inn.did_at (x := f.lk (f.nd k)) (k := f.own k) (u := k) (f.la (f.nd k) : Int) (by rw [lk_s]; exact h.own k hk)).2.1 (by rw [lk_s]; exact l3)).1
/-- one is granted the lock, and begins to give it back -/
theorem SvI.grant {f : FL} {c : Nat} {left grants : Nat → Nat} {L : Lp} (h : SvI f c left grants) (h1 : L.a1 = 0) {k : Nat} (hk : k < f.s.n) (hn : ¬ (f.s.st k = 0 ∧ 0 < left k)) (he : (f.did L k k).ev = 1) :
    (∃ b, f.did L k k = ⟨1, false, false, b⟩) ∧ turnE (f.step L k k).s k = 0 ∧ SvI ((f.step L k k).turn k 3) c left (upd grants k (grants k + 1)) ∧ todo ((f.step L k k).turn k 3) left + 1 ≤ todo f left ∧
      (∀ j, ((f.step L k k).turn k 3).s.st j = upd f.s.st k 3 j) ∧ ((f.step L k k).turn k 3).s.n = f.s.n ∧ (f.step L k k).ps.D.length ≤ f.ps.D.length + 1 := by
  obtain ⟨H, V, gg, Wg, q, hJ, _⟩ := h.ord.ordJ
  have S := Stf.far hJ hk L k
  obtain ⟨ho2, hD⟩ := h.ord.step (L := L) h1 hk
  have s1 : f.s.st k = 1 := by
    rcases h.stx k hk with x | ⟨x, _⟩ | x
    · rw [h.at_idle (L := L) hk x] at he; cases he
    · exact x
    · rcases ev_three (L := L) hJ hk x with y | y <;> omega
  have hb : ∃ b, f.did L k k = ⟨1, false, false, b⟩ := by
    rcases ev_one (L := L) hk s1 with y | y
    · omega
    · exact y
  have w15 : 15 < f.wc k := by
    rcases prog hJ h1 hk (.inl s1) (fun _ p => by
      rcases h.stx k hk with x | ⟨x, y⟩ | x
      · omega
      · exact y p
      · omega) with x | x | x
    · exact x.2.2
    · exact absurd he x.1
    · omega
  obtain ⟨G, hG⟩ : ∃ G, G = f.step L k k := ⟨_, rfl⟩
  have oth : ∀ j, j < f.s.n → j ≠ k → G.wc j = f.wc j := fun j hj e => by rw [hG]; exact oth_wc hJ hk hj e
  have Gs : G.s = f.s.set k 2 0 := by
    rw [hG]
    show f.s.fin k (f.did L k k).ev = _
    rw [he]
    exact (fin_some' hk (by rw [s1]; rfl)).1
  rw [← hG] at ho2 hD S ⊢
  have Gn : G.s.n = f.s.n := S.n
  have s2 : G.s.st k = 2 := by rw [Gs]; exact upd_same _ _ _
  have et : turnE G.s k = 0 := by
    unfold turnE
    rw [if_pos ⟨by omega, by omega⟩, Int.toNat_natCast, s2]; rfl
  have ho3 := ho2.unlock (k : Int)
  have ef : G.turn k 3 = { G with s := G.s.set k 3 (G.s.dl k) } := by
    unfold FL.turn SS.turn
    rw [if_pos et, Int.toNat_natCast]
  have p0 : G.ph k = 0 := by
    obtain ⟨H', V', gg', Wg', q', hJ', _⟩ := ho2.ordJ
    have hx := hJ'.cor.cx k (by omega)
    cases hx <;> omega
  obtain ⟨F, hF⟩ : ∃ F, F = G.turn k 3 := ⟨_, rfl⟩
  rw [← hF] at ho3 ⊢
  have ef : F = { G with s := G.s.set k 3 (G.s.dl k) } := hF.trans ef
  have Fs : F.s = G.s.set k 3 (G.s.dl k) := by rw [ef]
  have stj : ∀ j, F.s.st j = upd f.s.st k 3 j := fun j => by
    rw [Fs, st_set]
    by_cases x : j = k
    · subst x; rw [upd_same, upd_same]
    · rw [upd_other _ _ x, upd_other _ _ x]; exact S.st j x
  have Fn : F.s.n = f.s.n := by rw [Fs]; exact Gn
  refine ⟨hb, et, ⟨ho3, fun j hj => ?_, fun j hj => ?_⟩, ?_, stj, Fn, hD⟩
  · rw [stj]
    by_cases e : j = k
    · subst e; rw [upd_same]; exact .inr (.inr rfl)
    · rw [upd_other _ _ e]
      have e2 : F.ph j = f.ph j := by rw [ef]; exact S.ph j e
      have e3 : F.ll j = f.ll j := by rw [ef]; exact S.ll j (by omega) e
      rw [e2]
      rcases h.stx j (by omega) with x | ⟨x, y⟩ | x
      · exact .inl x
      · exact .inr (.inl ⟨x, fun z => e3.trans (y z)⟩)
      · exact .inr (.inr x)
  · rw [stj]
    have := h.cnt j (by omega)
    by_cases e : j = k
    · subst e
      rw [upd_same, upd_same, if_neg (by decide)]
      rw [s1, if_pos rfl] at this
      omega
    · rw [upd_other _ _ e, upd_other _ _ e]; exact this
  · have ht := todo_upd (f := f) (f' := F) (left := left) (left' := left) hk Fn (fun j hj e => by
      rw [← oth j hj e]
      unfold FL.wc FL.wl FL.wg
      rw [show F.s.st j = G.s.st j by rw [Fs]; exact upd_other _ _ e, ef]) (fun _ _ => rfl)
    have w1 : wgt F left k = 40 * left k + 14 := by
      unfold wgt
      rw [wc_at (show F.s.st k = 3 by rw [stj, upd_same]) (show F.ph k = 0 by rw [ef]; exact p0), wv30]
    have w0 : wgt f left k = 40 * left k + f.wc k := rfl
    omega
/-- neither: one comes on, or nothing comes of it -/
theorem SvI.other {f : FL} {c : Nat} {left grants : Nat → Nat} {L : Lp} (h : SvI f c left grants) (h1 : L.a1 = 0) {k : Nat} (hk : k < f.s.n) (hn : ¬ (f.s.st k = 0 ∧ 0 < left k)) (he : (f.did L k k).ev ≠ 1) :
    SvI (f.step L k k) c left grants ∧ ((todo (f.step L k k) left + 1 ≤ todo f left) ∨ (todo (f.step L k k) left = todo f left ∧ Stuck (f.step L k k) left k ∧ ∀ j, Stuck f left j → Stuck (f.step L k k) left j)) ∧
      (∀ j, j ≠ k → (f.step L k k).s.st j = f.s.st j) ∧ (f.step L k k).s.n = f.s.n ∧ (f.step L k k).ps.D.length ≤ f.ps.D.length + 1 := by
  obtain ⟨H, V, gg, Wg, q, hJ, _⟩ := h.ord.ordJ
  have S := Stf.far hJ hk L k
  obtain ⟨ho2, hD⟩ := h.ord.step (L := L) h1 hk
  have hu : k < f.ps.ac.length := by rw [hJ.ac]; exact hk
  by_cases s0 : f.s.st k = 0
  · obtain ⟨_, e2⟩ := OrdJ.at_idle (L := L) (u := (k : Int)) hk (by omega) (by omega) (by omega)
    rw [e2]
    exact ⟨h, .inr ⟨rfl, .inl ⟨s0, by omega⟩, fun j hj => hj⟩, fun _ _ => rfl, rfl, Nat.le_succ _⟩
  have h0 : f.s.st k = 1 → f.ph k = 0 → (f.Lc (f.nd k)).s.st (f.own k) = 1 := fun _ p => by
    rcases h.stx k hk with x | ⟨x, y⟩ | x
    · omega
    · exact y p
    · omega
  have hs : f.s.st k = 1 ∨ f.s.st k = 3 := by rcases h.stx k hk with x | ⟨x, _⟩ | x <;> omega
  have ht := todo_upd (f := f) (f' := f.step L k k) (left := left) (left' := left) hk S.n (fun j hj e => oth_wc hJ hk hj e) (fun _ _ => rfl)
  have w1 : wgt (f.step L k k) left k = 40 * left k + (f.step L k k).wc k := rfl
  have w0 : wgt f left k = 40 * left k + f.wc k := rfl
  have stk : (f.s.st k = 1 ∧ (f.step L k k).s.st k = 1) ∨ (f.s.st k = 3 ∧ ((f.step L k k).s.st k = 3 ∨ (f.step L k k).s.st k = 0)) := by
    have ee : (f.step L k k).s = f.s.fin k (f.did L k k).ev := rfl
    rcases hs with s1 | s3
    · rcases ev_one (L := L) hk s1 with y | ⟨b, y⟩
      · rw [y, (fin_none' (by rw [s1]; rfl)).1] at ee
        exact .inl ⟨s1, by rw [ee]; exact s1⟩
      · rw [y] at he; exact absurd rfl he
    · rcases ev_three (L := L) hJ hk s3 with y | y
      · rw [y, (fin_none' (by rw [s3]; rfl)).1] at ee
        exact .inr ⟨s3, .inl (by rw [ee]; exact s3)⟩
      · rw [y, (fin_some' hk (by rw [s3]; rfl)).1] at ee
        exact .inr ⟨s3, .inr (by rw [ee]; exact upd_same _ _ _)⟩
  refine ⟨⟨ho2, fun j hj => ?_, fun j hj => ?_⟩, ?_, S.st, S.n, hD⟩
  · rw [S.n] at hj
    by_cases e : j = k
    · subst e
      rcases stk with ⟨s1, x⟩ | ⟨s3, x | x⟩
      · refine .inr (.inl ⟨x, fun p' => ?_⟩)
        by_cases p : f.ph j = 0
        · obtain ⟨W', st, hd, es, ⟨e0, a, ep⟩ | ⟨e1, _, a, ep⟩⟩ := hJ.stpL0 (L := L) hk hu s1 p
          · exact L0_st (L := L) hJ hk s1 p e0
          · rw [ep, upd_same] at p'; omega
        · exfalso
          have hx := hJ.cor.cx j hk
          have l2 : (f.Lc (f.nd j)).s.st (f.own j) = 2 := by cases hx <;> omega
          obtain ⟨H', V', gg', Wg', q', hJ', _⟩ := ho2.ordJ
          have hx' := hJ'.cor.cx j (by rw [S.n]; exact hk)
          have eL : (f.step L j j).Lc = f.Lc := by
            show (f.mid L j j).Lc = _
            rw [(OrdJ.at_one (L := L) (u := (j : Int)) hk s1).2]
            unfold FL.acq
            rw [if_neg p]
            split
            · split <;> rfl
            · split <;> rfl
          have l' : ((f.step L j j).Lc ((f.step L j j).nd j)).s.st ((f.step L j j).own j) = 2 := by rw [S.nd, S.own, eL]; exact l2
          cases hx' <;> omega
      · exact .inr (.inr x)
      · exact .inl x
    · have e4 := S.ll j hj e
      rw [S.st j e, S.ph j e]
      rcases h.stx j hj with x | ⟨x, y⟩ | x
      · exact .inl x
      · exact .inr (.inl ⟨x, fun z => e4.trans (y z)⟩)
      · exact .inr (.inr x)
  · rw [S.n] at hj
    have := h.cnt j hj
    by_cases e : j = k
    · subst e
      rcases stk with ⟨s1, x⟩ | ⟨s3, x⟩
      · rw [x]; rw [s1] at this; exact this
      · rw [if_neg (by omega)]; rw [if_neg (by omega)] at this; exact this
    · rw [S.st j e]; exact this
  · rcases prog hJ h1 hk hs h0 with x | x | ⟨x1, x2, x3, x4, x5⟩
    · exact absurd x.1 he
    · exact .inl (by omega)
    · refine .inr ⟨by omega, .inr ⟨by rw [S.n]; exact hk, x5 k hk x3⟩, fun j hj => ?_⟩
      rcases hj with ⟨a, b⟩ | ⟨a, b⟩
      · exact .inl ⟨by rw [x4]; exact a, b⟩
      · exact .inr ⟨by rw [S.n]; exact a, x5 j a b⟩
/-- if nobody can go on, nobody has anything to do -/
theorem SvI.rest {f : FL} {c : Nat} {left grants : Nat → Nat} (h : SvI f c left grants) (hs : ∀ k, k < f.s.n → Stuck f left k) : ∀ k, k < f.s.n → ¬ Busy f left k := by
  have hi := all_idle h.ord fun k hk => by
    rcases hs k hk with q | q
    · exact .inl q.1
    · exact .inr q.2
  intro k hk hb
  have s0 := hi k hk
  rcases hs k hk with q | ⟨_, q | q⟩
  · rcases hb with w | w
    · omega
    · exact w s0
  · have := q.1; omega
  · have := q.1; omega
end Go.Proofs.YtkmikkjjnbikdaaGreat
