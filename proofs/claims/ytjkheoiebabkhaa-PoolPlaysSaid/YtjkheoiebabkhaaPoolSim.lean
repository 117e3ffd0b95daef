/- A pool and the reference's agree: their rows are one, whatever is called. -/
import Derived.Test.YtjkheoiebabkhaaPoolRnew
namespace Go.Proofs.Ytjkheoiebabkhaa
open Go.RowKit
set_option linter.unusedVariables false

theorem filter_one {p : Nat → Bool} {m : Nat} (h : ∀ i, p i = true → i = m) : ∀ n, m < n → (List.range n).filter p = if p m = true then [m] else []
  | 0, hm => by omega
  | n + 1, hm => by
    rw [List.range_succ, List.filter_append]
    by_cases e : m = n
    · subst e
      have h0 : (List.range m).filter p = [] := by
        rw [List.filter_eq_nil_iff]
        intro a ha hp
        have := h a hp
        simp only [List.mem_range] at ha
        omega
      rw [h0, List.nil_append]
      by_cases hp : p m = true
      · rw [if_pos hp]; simp [hp]
      · rw [if_neg hp]; simp [hp]
    · rw [filter_one h n (by omega)]
      have hn : ¬ p n = true := fun hp => e (h n hp).symm
      simp [hn]
theorem rowS_nil {s : PS} {since : Nat → Nat} {t : Int} (h : ∀ σ i, i < s.n → isRow s since t σ i = false) (C : Nat) : rowS s since t C = [] := by
  unfold rowS
  rw [List.flatMap_eq_nil_iff]
  intro σ _
  unfold rowAt
  rw [List.map_eq_nil_iff, List.filter_eq_nil_iff]
  intro a ha
  rw [h σ a (by simpa using ha)]
  decide

theorem isRow_eq {s : PS} {since : Nat → Nat} {t : Int} {σ i a : Nat} {b : Int} (h1 : since (i + 1) = a) (h2 : s.own (i + 1) = b) : isRow s since t σ i = (decide (a = σ) && decide (b = t) && decide (0 ≤ t)) := by
  unfold isRow
  simp only [h1, h2]

structure Sim (s : PS) (since : Nat → Nat) (C : Nat) : Prop where
  rows : ∀ t : Nat, t < s.T → rowS s since (t : Int) C = s.row t
  lt : ∀ id, 1 ≤ id → id ≤ s.n → since id < C

theorem Sim.all {s : PS} {since : Nat → Nat} {C : Nat} (h : Sim s since C) (hI : PInv s) (t : Int) : rowS s since t C = s.rowI t := by
  unfold PS.rowI
  by_cases ht : 0 ≤ t ∧ t < s.T
  · obtain ⟨t, rfl⟩ := Int.eq_ofNat_of_zero_le ht.1
    rw [if_pos ht, Int.toNat_natCast]
    exact h.rows t (by omega)
  · rw [if_neg ht]
    refine rowS_nil (fun σ i hi => ?_) C
    unfold isRow
    by_cases h0 : 0 ≤ t
    · have hne : ¬ s.own (i + 1) = t := by
        rcases hI.all (i + 1) (by omega) (by omega) with e | ⟨u, hu, e, _⟩
        · omega
        · omega
      rw [decide_eq_false hne]
      simp
    · rw [decide_eq_false h0]
      simp

theorem Sim.setOut {s : PS} {since : Nat → Nat} {C : Nat} (h : Sim s since C) (id : Nat) (b : Bool) : Sim (s.setOut id b) since C := ⟨h.rows, h.lt⟩
theorem Sim.back {s : PS} {since : Nat → Nat} {C : Nat} (h : Sim s since C) (id : Int) : Sim (s.back id) since C := by
  unfold PS.back
  split
  · exact h.setOut _ _
  · exact h

theorem sim_new {T e : Nat} (e1 : 1 ≤ e) : Sim (newS T e) since0 (T * e) := by
  refine ⟨fun t ht => ?_, fun id h1 h2 => ?_⟩
  · have key : ∀ m, m ≤ T * e → rowS (newS T e) since0 (t : Int) m = (mkS T e m).row t := by
      intro m
      induction m with
      | zero =>
        intro _
        show [] = (List.range (min e (0 - t * e))).map _
        rw [Nat.zero_sub, Nat.min_zero]
        rfl
      | succ m ih =>
        intro hm
        rw [rowS_succ, ih (by omega)]
        have hk : m % e < e := Nat.mod_lt _ (by omega)
        have hd : m / e * e + m % e = m := by rw [Nat.mul_comm]; exact Nat.div_add_mod m e
        have hn := mk_next (T := T) (t := m / e) hk t
        rw [hd] at hn
        rw [hn]
        have hrow : rowAt (newS T e) since0 (t : Int) m (newS T e).n = if m / e = t then [m + 1] else [] := by
          unfold rowAt
          have hone : ∀ i, isRow (newS T e) since0 (t : Int) m i = true → i = m := fun i hi => by
            unfold isRow at hi
            simp only [Bool.and_eq_true, decide_eq_true_eq] at hi
            have := hi.1.1
            unfold since0 at this
            omega
          rw [filter_one hone _ (show m < (newS T e).n from hm)]
          have hval : isRow (newS T e) since0 (t : Int) m m = decide (m / e = t) := by
            unfold isRow
            have h1 : since0 (m + 1) = m := rfl
            have h2 : (newS T e).own (m + 1) = ((m / e : Nat) : Int) := rfl
            rw [h1, h2, decide_eq_true rfl, decide_eq_true (show (0 : Int) ≤ (t : Int) by omega)]
            simp only [Bool.true_and, Bool.and_true]
            by_cases e : m / e = t
            · rw [decide_eq_true e, decide_eq_true (by rw [e])]
            · rw [decide_eq_false e, decide_eq_false (fun x => e (Int.ofNat_inj.1 x))]
          rw [hval]
          by_cases e : m / e = t
          · rw [if_pos e, decide_eq_true e]; rfl
          · rw [if_neg e, decide_eq_false e]; rfl
        rw [hrow]
        by_cases e : m / e = t
        · rw [if_pos e, e, upd_same]
        · rw [if_neg e, upd_other _ _ (fun x => e x.symm), List.append_nil]
    exact key (T * e) (Nat.le_refl _)
  · have h2' : id ≤ T * e := h2
    unfold since0
    omega

theorem rowAt_give {s : PS} {since : Nat → Nat} {C id : Nat} {to t : Int} {σ : Nat} (hσ : σ ≠ C) : rowAt (s.give id to) (upd since id C) t σ s.n = without (rowAt s since t σ s.n) id := by
  unfold rowAt without
  rw [List.filter_map, List.filter_filter]
  congr 1
  apply List.filter_congr
  intro i _
  show isRow (s.give id to) (upd since id C) t σ i = (!decide (i + 1 = id) && isRow s since t σ i)
  by_cases e : i + 1 = id
  · rw [isRow_eq (a := C) (b := to) (by rw [e, upd_same]) (show upd s.own id to (i + 1) = to by rw [e, upd_same]), decide_eq_false (fun x => hσ x.symm), decide_eq_true e]
    simp
  · rw [isRow_eq (upd_other _ _ e) (show upd s.own id to (i + 1) = s.own (i + 1) from upd_other _ _ e), decide_eq_false e]
    rfl
theorem without_flat {f : Nat → List Nat} {id : Nat} : ∀ l : List Nat, without (l.flatMap f) id = l.flatMap fun σ => without (f σ) id
  | [] => rfl
  | x :: r => by
    have ih := without_flat (f := f) (id := id) r
    unfold without at ih ⊢
    rw [List.flatMap_cons, List.flatMap_cons, List.filter_append, ih]
theorem Sim.give {s : PS} {since : Nat → Nat} {C id : Nat} {to : Int} (h : Sim s since C) (h1 : 1 ≤ id) (h2 : id ≤ s.n) : Sim (s.give id to) (upd since id C) (C + 1) := by
  refine ⟨fun t ht => ?_, fun x x1 x2 => ?_⟩
  · rw [rowS_succ]
    have hA : rowS (s.give id to) (upd since id C) (t : Int) C = without (s.row t) id := by
      rw [← h.rows t ht]
      unfold rowS
      rw [without_flat]
      refine flat_same fun σ hσ => ?_
      exact rowAt_give (by have : σ < C := by simpa using hσ
                           omega)
    have hB : rowAt (s.give id to) (upd since id C) (t : Int) C (s.give id to).n = if to = (t : Int) then [id] else [] := by
      unfold rowAt
      rw [show (s.give id to).n = s.n from rfl]
      have hone : ∀ i, isRow (s.give id to) (upd since id C) (t : Int) C i = true → i < s.n → i = id - 1 := fun i hi hin => by
        unfold isRow at hi
        simp only [Bool.and_eq_true, decide_eq_true_eq] at hi
        by_cases e : i + 1 = id
        · omega
        · have h3 := hi.1.1
          rw [upd_other _ _ e] at h3
          have := h.lt (i + 1) (by omega) (by omega)
          omega
      have hval : isRow (s.give id to) (upd since id C) (t : Int) C (id - 1) = decide (to = (t : Int)) := by
        rw [isRow_eq (a := C) (b := to) (by rw [show id - 1 + 1 = id by omega, upd_same]) (show upd s.own id to (id - 1 + 1) = to by rw [show id - 1 + 1 = id by omega, upd_same]), decide_eq_true rfl, decide_eq_true (show (0 : Int) ≤ (t : Int) by omega)]
        simp
      have hf : (List.range s.n).filter (isRow (s.give id to) (upd since id C) (t : Int) C) = (List.range s.n).filter (fun i => isRow (s.give id to) (upd since id C) (t : Int) C i && decide (i < s.n)) := by
        apply List.filter_congr
        intro i hi
        have : i < s.n := by simpa using hi
        rw [decide_eq_true this, Bool.and_true]
      rw [hf, filter_one (m := id - 1) (fun i hi => by
        simp only [Bool.and_eq_true, decide_eq_true_eq] at hi
        exact hone i hi.1 hi.2) _ (show id - 1 < s.n by omega), hval, decide_eq_true (show id - 1 < s.n by omega), Bool.and_true]
      by_cases e : to = (t : Int)
      · rw [if_pos e, decide_eq_true e, if_pos rfl, List.map_cons, List.map_nil, show id - 1 + 1 = id by omega]
      · rw [if_neg e, decide_eq_false e]
        rfl
    rw [hA, hB]
    rfl
  · show upd since id C x < C + 1
    by_cases e : x = id
    · rw [e, upd_same]; omega
    · rw [upd_other _ _ e]
      have := h.lt x x1 x2
      omega
theorem Sim.giveI {s : PS} {since : Nat → Nat} {C : Nat} {id to : Int} (h : Sim s since C) : Sim (s.giveI id to) (sinceG s since C id to) (cntG s C id to) := by
  unfold PS.giveI sinceG cntG
  by_cases hok : okG s id to
  · rw [if_pos hok, if_pos hok, if_pos hok]
    exact h.give (by have := hok.1; omega) (by have := hok.1; omega)
  · rw [if_neg hok, if_neg hok, if_neg hok]
    exact h
end Go.Proofs.Ytjkheoiebabkhaa
