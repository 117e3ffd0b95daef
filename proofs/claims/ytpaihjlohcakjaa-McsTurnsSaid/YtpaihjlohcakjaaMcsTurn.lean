/- If all call an MCS lock and step by turns, each turn brings them on, or finds nothing to do; no walk. -/
import Derived.Test.YtpaihjlohcakjaaMcsOrd
namespace Go.Proofs.Ytpaihjlohcakjaa
set_option linter.unusedVariables false
set_option maxRecDepth 100000

/-! ### sums -/
def sumN (w : Nat → Nat) : Nat → Nat
  | 0 => 0
  | n + 1 => sumN w n + w n
theorem sumN_same {w w' : Nat → Nat} {n : Nat} (h : ∀ k, k < n → w' k = w k) : sumN w' n = sumN w n := by
  induction n with
  | zero => rfl
  | succ n ih => show sumN w' n + w' n = sumN w n + w n; rw [ih fun k hk => h k (by omega), h n (by omega)]
theorem sumN_upd {w w' : Nat → Nat} {n k : Nat} (hk : k < n) (h : ∀ j, j ≠ k → w' j = w j) : sumN w' n + w k = sumN w n + w' k := by
  induction n with
  | zero => omega
  | succ n ih =>
    show sumN w' n + w' n + w k = sumN w n + w n + w' k
    by_cases e : k = n
    · subst e
      rw [sumN_same fun j hj => h j (by omega)]
      omega
    · have := ih (by omega)
      have := h n (fun x => e x.symm)
      omega
theorem sumN_const (c n : Nat) : sumN (fun _ => c) n = c * n := by
  induction n with
  | zero => rfl
  | succ n ih => show sumN _ n + c = _; rw [ih, Nat.mul_succ]

/-! ### all by turns -/
def wgt (f : FL) (left : Nat → Nat) (k : Nat) : Nat := 11 * left k + phs (f.s.st k) (f.pc k)
/-- how much is to do -/
def todo (f : FL) (left : Nat → Nat) : Nat := sumN (wgt f left) f.s.n
theorem todo_start {f : FL} (hst : ∀ k, f.s.st k = 0) {n c : Nat} (hn : n = f.s.n) : todo f (fun k => if k < n then c else 0) = 11 * c * f.s.n := by
  unfold todo
  rw [sumN_same (w := fun _ => 11 * c) (fun k hk => by unfold wgt; rw [hst k]; show 11 * (if k < n then c else 0) + phs 0 (f.pc k) = 11 * c; rw [if_pos (by omega)]; rfl), sumN_const]
theorem todo_upd {f f' : FL} {left left' : Nat → Nat} {k : Nat} (hk : k < f.s.n) (hn : f'.s.n = f.s.n) (hs : ∀ j, j ≠ k → f'.s.st j = f.s.st j) (hp : ∀ j, j ≠ k → f'.pc j = f.pc j) (hl : ∀ j, j ≠ k → left' j = left j) :
    todo f' left' + wgt f left k = todo f left + wgt f' left' k := by
  unfold todo
  rw [hn]
  exact sumN_upd hk fun j e => by unfold wgt; rw [hs j e, hp j e, hl j e]
structure SvI (f : FL) (c : Nat) (left grants : Nat → Nat) : Prop where
  ord : ∃ g W, OrdJ f g W
  stx : ∀ k, k < f.s.n → f.s.st k = 0 ∨ (f.s.st k = 1 ∧ f.pc k ≠ 0) ∨ f.s.st k = 3
  cnt : ∀ k, k < f.s.n → grants k + left k + (if f.s.st k = 1 then 1 else 0) = c
/-- nothing to do, or another one must come on -/
def Stuck (f : FL) (left : Nat → Nat) (k : Nat) : Prop := (f.s.st k = 0 ∧ left k = 0) ∨ (f.s.st k = 1 ∧ f.pc k = 4 ∧ wK f.ps k ≠ 0) ∨ (f.s.st k = 3 ∧ f.pc k = 2 ∧ wN f.ps k = 0)
/-- is there anything to do? -/
def Busy (f : FL) (left : Nat → Nat) (k : Nat) : Prop := 0 < left k ∨ f.s.st k ≠ 0
theorem st_set (s : SS) (k : Nat) (x d : Int) (j : Nat) : (s.set k x d).st j = upd s.st k x j := rfl

theorem SvI.start {f : FL} {c : Nat} {left grants : Nat → Nat} (hO : OrdI f []) (hst : ∀ k, f.s.st k = 0) (hc : ∀ k, k < f.s.n → grants k + left k + (if f.s.st k = 1 then 1 else 0) = c) : SvI f c left grants := by
  obtain ⟨g, hO⟩ := hO
  exact ⟨⟨g, [], hO⟩, fun k _ => .inl (hst k), hc⟩
theorem SvI.at_idle {f : FL} {c : Nat} {left grants : Nat → Nat} {L : Lp} (h : SvI f c left grants) {k : Nat} (hk : k < f.s.n) (s0 : f.s.st k = 0) : f.did L k k = Dd.no := by
  exact (OrdJ.at_idle hk (by omega) (by omega) (by omega)).1

/-- one calls, and does its first step -/
theorem SvI.calls {f : FL} {c : Nat} {left grants : Nat → Nat} {L : Lp} (h : SvI f c left grants) (h1 : L.a1 = 0) (h2 : L.a2 = 1) {k : Nat} (hk : k < f.s.n) (s0 : f.s.st k = 0) (hl : 0 < left k) :
    lockE f.s k (-1) = 0 ∧ (f.lock k (-1)).did L k k = ⟨0, false, false, false⟩ ∧ SvI ((f.lock k (-1)).step L k k) c (upd left k (left k - 1)) grants ∧
      todo ((f.lock k (-1)).step L k k) (upd left k (left k - 1)) + 1 ≤ todo f left ∧ ((f.lock k (-1)).step L k k).s = f.s.set k 1 (-1) ∧ ((f.lock k (-1)).step L k k).ps.D.length ≤ f.ps.D.length + 1 := by
  obtain ⟨g, W, ho⟩ := h.ord
  have el : lockE f.s k (-1) = 0 := by unfold lockE; rw [if_pos ⟨by omega, .inl rfl⟩, Int.toNat_natCast, if_pos s0]
  have ef : f.lock k (-1) = { f with s := f.s.set k 1 (-1) } := by unfold FL.lock SS.lock; rw [if_pos el, Int.toNat_natCast]
  have ho1 := ho.lock k (-1)
  rw [ef] at ho1 ⊢
  have hd : f.pc k = 0 := ho.cor.pcI k hk (by omega) (by omega)
  have s1 : (f.s.set k 1 (-1)).st k = 1 := upd_same _ _ _
  obtain ⟨e1, ps, e2, a2, a3⟩ := ho1.at_nxt0 h2 (k := k) hk s1 hd
  refine ⟨el, e1, ?_, ?_, ?_, ?_⟩
  · rw [e2]
    refine ⟨⟨_, _, a2⟩, fun j hj => ?_, fun j hj => ?_⟩
    · show upd f.s.st k 1 j = 0 ∨ (upd f.s.st k 1 j = 1 ∧ upd f.pc k 1 j ≠ 0) ∨ upd f.s.st k 1 j = 3
      by_cases e : j = k
      · subst e; rw [upd_same, upd_same]; exact .inr (.inl ⟨rfl, by decide⟩)
      · rw [upd_other _ _ e, upd_other _ _ e]; exact h.stx j hj
    · show grants j + upd left k (left k - 1) j + (if upd f.s.st k 1 j = 1 then 1 else 0) = c
      have := h.cnt j hj
      by_cases e : j = k
      · subst e
        rw [upd_same, upd_same, if_pos rfl]
        rw [s0, if_neg (by decide)] at this
        omega
      · rw [upd_other _ _ e, upd_other _ _ e]; exact this
  · rw [show ({ f with s := f.s.set k 1 (-1) } : FL).step L k k = { f with s := f.s.set k 1 (-1), pc := upd f.pc k 1, ps := ps } from e2]
    have := todo_upd (f := f) (f' := { f with s := f.s.set k 1 (-1), pc := upd f.pc k 1, ps := ps }) (left := left) (left' := upd left k (left k - 1)) hk rfl (fun j e => upd_other _ _ e) (fun j e => upd_other _ _ e) (fun j e => upd_other _ _ e)
    have w1 : wgt { f with s := f.s.set k 1 (-1), pc := upd f.pc k 1, ps := ps } (upd left k (left k - 1)) k = 11 * (left k - 1) + 9 := by
      show 11 * upd left k (left k - 1) k + phs (upd f.s.st k 1 k) (upd f.pc k 1 k) = _
      rw [upd_same, upd_same, upd_same]; rfl
    have w0 : wgt f left k = 11 * left k := by unfold wgt; rw [s0]; rfl
    rw [w1, w0] at this
    omega
  · rw [e2]
  · rw [e2]; exact Nat.le_of_eq a3

/-- one is granted the lock, and begins to give it back -/
theorem SvI.grant {f : FL} {c : Nat} {left grants : Nat → Nat} {L : Lp} (h : SvI f c left grants) (h1 : L.a1 = 0) (h2 : L.a2 = 1) {k : Nat} (hk : k < f.s.n) (hn : ¬ (f.s.st k = 0 ∧ 0 < left k)) (he : (f.did L k k).ev = 1) :
    (∃ b, f.did L k k = ⟨1, b, false, false⟩) ∧ turnE (f.step L k k).s k = 0 ∧ SvI ((f.step L k k).turn k 3) c left (upd grants k (grants k + 1)) ∧ todo ((f.step L k k).turn k 3) left + 1 ≤ todo f left ∧
      (∀ j, ((f.step L k k).turn k 3).s.st j = upd f.s.st k 3 j) ∧ ((f.step L k k).turn k 3).s.n = f.s.n ∧ (f.step L k k).ps.D.length ≤ f.ps.D.length + 1 := by
  obtain ⟨g, W, ho⟩ := h.ord
  obtain ⟨g', W', x, p, hs⟩ := ho.stp h1 h2 hk
  obtain ⟨s1, rfl, rfl, hb⟩ := hs.ev he
  have s2 : (f.step L k k).s.st k = 2 := by rw [hs.st]; exact upd_same _ _ _
  have et : turnE (f.step L k k).s k = 0 := by
    unfold turnE
    rw [if_pos ⟨by omega, by rw [hs.n]; omega⟩, Int.toNat_natCast, s2]; rfl
  have ho3 := hs.ord.turn k 3 (.inl rfl)
  have ef : (f.step L k k).turn k 3 = { f.step L k k with s := (f.step L k k).s.set k 3 ((f.step L k k).s.dl k) } := by
    unfold FL.turn SS.turn
    rw [if_pos et, Int.toNat_natCast]
  have stj : ∀ j, ((f.step L k k).turn k 3).s.st j = upd f.s.st k 3 j := fun j => by
    rw [ef]
    show upd (f.step L k k).s.st k 3 j = _
    unfold upd
    split
    · rfl
    · rename_i q
      rw [hs.st, upd_other _ _ q]
  have pcj : ∀ j, ((f.step L k k).turn k 3).pc j = upd f.pc k 0 j := fun j => hs.pc j
  have nn : ((f.step L k k).turn k 3).s.n = f.s.n := (SS.turn_n _ _ _).trans hs.n
  refine ⟨hb, et, ⟨⟨_, _, ho3⟩, fun j hj => ?_, fun j hj => ?_⟩, ?_, stj, nn, hs.D⟩
  · rw [stj, pcj]
    by_cases e : j = k
    · subst e; rw [upd_same]; exact .inr (.inr rfl)
    · rw [upd_other _ _ e, upd_other _ _ e]; exact h.stx j (by rw [← nn]; exact hj)
  · rw [stj]
    have := h.cnt j (by rw [← nn]; exact hj)
    by_cases e : j = k
    · subst e
      rw [upd_same, upd_same, if_neg (by decide)]
      rw [s1, if_pos rfl] at this
      omega
    · rw [upd_other _ _ e, upd_other _ _ e]; exact this
  · have ht := todo_upd (f := f) (f' := (f.step L k k).turn k 3) (left := left) (left' := left) hk nn (fun j e => by rw [stj, upd_other _ _ e]) (fun j e => by rw [pcj, upd_other _ _ e]) (fun _ _ => rfl)
    have w1 : wgt ((f.step L k k).turn k 3) left k = 11 * left k + 4 := by
      unfold wgt
      rw [stj, pcj, upd_same, upd_same]; rfl
    have w0 : 11 * left k + 6 ≤ wgt f left k := by
      have := hs.on
      rw [s1] at this
      unfold wgt
      rw [s1]
      rcases this with q | q | q
      · have e5 : phs 2 0 = 5 := rfl
        omega
      · omega
      · omega
    omega

/-- neither: one comes on, or nothing comes of it -/
theorem SvI.other {f : FL} {c : Nat} {left grants : Nat → Nat} {L : Lp} (h : SvI f c left grants) (h1 : L.a1 = 0) (h2 : L.a2 = 1) {k : Nat} (hk : k < f.s.n) (hn : ¬ (f.s.st k = 0 ∧ 0 < left k)) (he : (f.did L k k).ev ≠ 1) :
    SvI (f.step L k k) c left grants ∧ ((todo (f.step L k k) left + 1 ≤ todo f left) ∨ (todo (f.step L k k) left = todo f left ∧ Stuck (f.step L k k) left k ∧ ∀ j, Stuck f left j → Stuck (f.step L k k) left j)) ∧
      (∀ j, j ≠ k → (f.step L k k).s.st j = f.s.st j) ∧ (f.step L k k).s.n = f.s.n ∧ (f.step L k k).ps.D.length ≤ f.ps.D.length + 1 := by
  obtain ⟨g, W, ho⟩ := h.ord
  obtain ⟨g', W', x, p, hs⟩ := ho.stp h1 h2 hk
  have hx : (f.s.st k = 0 ∧ x = 0 ∧ p = f.pc k) ∨ (f.s.st k = 1 ∧ x = 1 ∧ p ≠ 0) ∨ (f.s.st k = 3 ∧ (x = 3 ∨ x = 0)) := by
    rcases h.stx k hk with q | q | q
    · exact .inl ⟨q, hs.s0 q⟩
    · rcases hs.s1 q.1 with q2 | q2
      · exact .inr (.inl ⟨q.1, q2⟩)
      · exact absurd q2.2 he
    · exact .inr (.inr ⟨q, hs.s3 q⟩)
  have ht := todo_upd (f := f) (f' := f.step L k k) (left := left) (left' := left) hk hs.n (fun j e => by rw [hs.st, upd_other _ _ e]) (fun j e => by rw [hs.pc, upd_other _ _ e]) (fun _ _ => rfl)
  have w1 : wgt (f.step L k k) left k = 11 * left k + phs x p := by
    unfold wgt
    rw [hs.st, hs.pc, upd_same, upd_same]
  have w0 : wgt f left k = 11 * left k + phs (f.s.st k) (f.pc k) := rfl
  refine ⟨⟨⟨_, _, hs.ord⟩, fun j hj => ?_, fun j hj => ?_⟩, ?_, fun j e => by rw [hs.st, upd_other _ _ e], hs.n, hs.D⟩
  · rw [hs.st, hs.pc]
    by_cases e : j = k
    · subst e; rw [upd_same, upd_same]; omega
    · rw [upd_other _ _ e, upd_other _ _ e]; exact h.stx j (by rw [← hs.n]; exact hj)
  · rw [hs.st]
    have := h.cnt j (by rw [← hs.n]; exact hj)
    by_cases e : j = k
    · subst e
      rw [upd_same]
      rcases hx with q | q | q
      · rw [q.2.1, if_neg (by decide)]; rw [q.1, if_neg (by decide)] at this; exact this
      · rw [q.2.1, if_pos rfl]; rw [q.1, if_pos rfl] at this; exact this
      · rw [if_neg (by omega)]; rw [q.1, if_neg (by decide)] at this; exact this
    · rw [upd_other _ _ e]; exact this
  · rcases hs.on with q | q | ⟨q1, q2, q3, q4⟩
    · exact .inl (by omega)
    · omega
    · subst q1 q2
      have est : ∀ j, (f.step L k k).s.st j = f.s.st j := fun j => (hs.st j).trans (upd_self _ _ j).symm
      have epc : ∀ j, (f.step L k k).pc j = f.pc j := fun j => (hs.pc j).trans (upd_self _ _ j).symm
      obtain ⟨_, wn, wk⟩ := ws_same q3
      have key : ∀ j, Stuck f left j → Stuck (f.step L k k) left j := fun j hj => by
        unfold Stuck at hj ⊢
        rw [est, epc, wn, wk]
        exact hj
      refine .inr ⟨by omega, key k ?_, key⟩
      unfold Stuck
      rcases q4 with q | q | q | q
      · exact .inl ⟨q, by omega⟩
      · omega
      · exact .inr (.inl q)
      · exact .inr (.inr q)

/-- if nobody can go on, nobody has anything to do -/
theorem SvI.rest {f : FL} {c : Nat} {left grants : Nat → Nat} (h : SvI f c left grants) (hs : ∀ k, k < f.s.n → Stuck f left k) : ∀ k, k < f.s.n → ¬ Busy f left k := by
  obtain ⟨g, W, ho⟩ := h.ord
  have hq : g.toList ++ W = [] := by
    cases g with
    | none =>
      cases W with
      | nil => rfl
      | cons k r =>
        have hk : k < f.s.n := ho.cor.lt k (by simp)
        have h4 := ho.cor.hd rfl k r rfl
        have s1 := ho.cor.stw k (by simp)
        rcases hs k hk with q | q | q
        · omega
        · exact absurd h4.2 q.2.2
        · omega
    | some k =>
      have hk : k < f.s.n := ho.cor.lt k (by simp)
      have hg := ho.cor.stg k rfl
      rcases hs k hk with q | q | q
      · omega
      · omega
      · rcases ho.cor.nextOf with ⟨rfl, _⟩ | ⟨j, r, rfl, q2⟩
        · exact absurd rfl (ho.cor.un2 k rfl q.1 q.2.1)
        · have hj : j < f.s.n := ho.cor.lt j (by simp)
          have s1 := ho.cor.stw j (by simp)
          rcases q2 with q2 | q2
          · rcases hs j hj with q5 | q5 | q5 <;> omega
          · have := q.2.2; omega
  intro k hk hb
  have hn : k ∉ g.toList ++ W := by rw [hq]; simp
  rcases hs k hk with ⟨s0, l0⟩ | ⟨s1, p4, _⟩ | ⟨s3, _, _⟩
  · rcases hb with hb | hb
    · omega
    · exact hb s0
  · exact hn ((ho.cor.inq k hk s1).1 (by omega))
  · have := ho.cor.held hk (.inr (.inl s3))
    subst this
    exact hn (by simp)
end Go.Proofs.Ytpaihjlohcakjaa
