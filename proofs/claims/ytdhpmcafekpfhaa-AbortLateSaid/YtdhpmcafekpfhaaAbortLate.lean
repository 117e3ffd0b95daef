/- Nobody gives up ahead of its deadline; no walk. -/
import Derived.Test.YtdhpmcafekpfhaaAbortOrd
namespace Go.Proofs.Ytdhpmcafekpfhaa
set_option linter.unusedVariables false
set_option maxRecDepth 100000

theorem acq_other (f : FL) (L : Lp) (t : Nat) (u x : Int) {j : Nat} (hj : j ≠ t) : (f.acq L t u x).pc j = f.pc j := by
  unfold FL.acq
  by_cases p1 : f.pc t = 1
  · rw [if_pos p1]; exact upd_other _ _ hj
  rw [if_neg p1]
  by_cases p2 : f.pc t = 2
  · rw [if_pos p2]; exact upd_other _ _ hj
  rw [if_neg p2]
  by_cases p3 : f.pc t = 3
  · rw [if_pos p3]; exact upd_other _ _ hj
  rw [if_neg p3]
  by_cases p4 : f.pc t = 4
  · rw [if_pos p4]; exact upd_other _ _ hj
  rw [if_neg p4]
  by_cases p5 : f.pc t = 5
  · rw [if_pos p5]; exact upd_other _ _ hj
  rw [if_neg p5]
  by_cases p6 : f.pc t = 6
  · rw [if_pos p6]; exact upd_other _ _ hj
  rw [if_neg p6]
  by_cases p7 : f.pc t = 7
  · rw [if_pos p7]; exact upd_other _ _ hj
  rw [if_neg p7]
  exact upd_other _ _ hj
theorem rel_other (f : FL) (L : Lp) (t : Nat) (u : Int) {j : Nat} (hj : j ≠ t) : (f.rel L t u).pc j = f.pc j := by
  unfold FL.rel
  by_cases p1 : f.pc t = 1
  · rw [if_pos p1]; exact upd_other _ _ hj
  rw [if_neg p1]
  by_cases p2 : f.pc t = 2
  · rw [if_pos p2]; exact upd_other _ _ hj
  rw [if_neg p2]
  by_cases p3 : f.pc t = 3
  · rw [if_pos p3]; exact upd_other _ _ hj
  rw [if_neg p3]
  by_cases p4 : f.pc t = 4
  · rw [if_pos p4]; exact upd_other _ _ hj
  rw [if_neg p4]
  by_cases p5 : f.pc t = 5
  · rw [if_pos p5]; exact upd_other _ _ hj
  rw [if_neg p5]
  exact upd_other _ _ hj
theorem acqD_two (f : FL) (L : Lp) (t : Nat) (u x : Int) (p1 : 1 ≤ f.pc t ∧ f.pc t ≤ 8) (p8 : f.pc t ≠ 8) : (f.acqD L t u x).ev ≠ 2 := by
  unfold FL.acqD
  by_cases p1 : f.pc t = 1
  · rw [if_pos p1]; split <;> decide
  rw [if_neg p1]
  by_cases p2 : f.pc t = 2
  · rw [if_pos p2]; decide
  rw [if_neg p2]
  by_cases p3 : f.pc t = 3
  · rw [if_pos p3]; decide
  rw [if_neg p3]
  by_cases p4 : f.pc t = 4
  · rw [if_pos p4]; decide
  rw [if_neg p4]
  by_cases p5 : f.pc t = 5
  · rw [if_pos p5]
    show (if tellS f.ps u 3 L.a1 = 0 then (1 : Int) else 0) ≠ 2
    split <;> decide
  rw [if_neg p5]
  by_cases p6 : f.pc t = 6
  · rw [if_pos p6]; decide
  rw [if_neg p6]
  rw [if_pos (by omega)]
  split <;> decide
theorem rel_eight (f : FL) (L : Lp) (t : Nat) (u : Int) : (f.rel L t u).pc t ≠ 8 := by
  unfold FL.rel
  by_cases p1 : f.pc t = 1
  · rw [if_pos p1]; show upd f.pc t _ t ≠ 8; rw [upd_same]; split <;> decide
  rw [if_neg p1]
  by_cases p2 : f.pc t = 2
  · rw [if_pos p2]; show upd f.pc t _ t ≠ 8; rw [upd_same]; split <;> decide
  rw [if_neg p2]
  by_cases p3 : f.pc t = 3
  · rw [if_pos p3]; show upd f.pc t _ t ≠ 8; rw [upd_same]; split <;> decide
  rw [if_neg p3]
  by_cases p4 : f.pc t = 4
  · rw [if_pos p4]; show upd f.pc t _ t ≠ 8; rw [upd_same]; split <;> decide
  rw [if_neg p4]
  by_cases p5 : f.pc t = 5
  · rw [if_pos p5]; show upd f.pc t _ t ≠ 8; rw [upd_same]; decide
  rw [if_neg p5]
  show upd f.pc t _ t ≠ 8; rw [upd_same]; decide
theorem mid_rng (f : FL) (L : Lp) {t : Nat} {u x : Int} (ht : 0 ≤ (t : Int) ∧ (t : Int) < f.s.n) (h : 1 ≤ f.pc t ∧ f.pc t ≤ 8) : 1 ≤ (f.mid L t u x).pc t ∧ (f.mid L t u x).pc t ≤ 8 := by
  unfold FL.mid
  rw [if_pos ht, Int.toNat_natCast]
  split
  · unfold FL.acq
    by_cases p1 : f.pc t = 1
    · rw [if_pos p1]; show 1 ≤ upd f.pc t _ t ∧ upd f.pc t _ t ≤ 8; rw [upd_same]; split <;> omega
    rw [if_neg p1]
    by_cases p2 : f.pc t = 2
    · rw [if_pos p2]; show 1 ≤ upd f.pc t _ t ∧ upd f.pc t _ t ≤ 8; rw [upd_same]; omega
    rw [if_neg p2]
    by_cases p3 : f.pc t = 3
    · rw [if_pos p3]; show 1 ≤ upd f.pc t _ t ∧ upd f.pc t _ t ≤ 8; rw [upd_same]; omega
    rw [if_neg p3]
    by_cases p4 : f.pc t = 4
    · rw [if_pos p4]; show 1 ≤ upd f.pc t _ t ∧ upd f.pc t _ t ≤ 8; rw [upd_same]; omega
    rw [if_neg p4]
    by_cases p5 : f.pc t = 5
    · rw [if_pos p5]; show 1 ≤ upd f.pc t _ t ∧ upd f.pc t _ t ≤ 8; rw [upd_same]; split <;> omega
    rw [if_neg p5]
    by_cases p6 : f.pc t = 6
    · rw [if_pos p6]; show 1 ≤ upd f.pc t _ t ∧ upd f.pc t _ t ≤ 8; rw [upd_same]; omega
    rw [if_neg p6]
    by_cases p7 : f.pc t = 7
    · rw [if_pos p7]; show 1 ≤ upd f.pc t _ t ∧ upd f.pc t _ t ≤ 8; rw [upd_same]; split; omega; split <;> omega
    rw [if_neg p7]
    show 1 ≤ upd f.pc t _ t ∧ upd f.pc t _ t ≤ 8; rw [upd_same]; omega
  · split
    · unfold FL.rel
      by_cases p1 : f.pc t = 1
      · rw [if_pos p1]; show 1 ≤ upd f.pc t _ t ∧ upd f.pc t _ t ≤ 8; rw [upd_same]; split <;> omega
      rw [if_neg p1]
      by_cases p2 : f.pc t = 2
      · rw [if_pos p2]; show 1 ≤ upd f.pc t _ t ∧ upd f.pc t _ t ≤ 8; rw [upd_same]; split <;> omega
      rw [if_neg p2]
      by_cases p3 : f.pc t = 3
      · rw [if_pos p3]; show 1 ≤ upd f.pc t _ t ∧ upd f.pc t _ t ≤ 8; rw [upd_same]; split <;> omega
      rw [if_neg p3]
      by_cases p4 : f.pc t = 4
      · rw [if_pos p4]; show 1 ≤ upd f.pc t _ t ∧ upd f.pc t _ t ≤ 8; rw [upd_same]; split <;> omega
      rw [if_neg p4]
      by_cases p5 : f.pc t = 5
      · rw [if_pos p5]; show 1 ≤ upd f.pc t _ t ∧ upd f.pc t _ t ≤ 8; rw [upd_same]; omega
      rw [if_neg p5]
      show 1 ≤ upd f.pc t _ t ∧ upd f.pc t _ t ≤ 8; rw [upd_same]; omega
    · exact h
/-- who is at its last step has waited long enough; dls: the deadlines that were asked for -/
structure LtI (f : FL) (now : Int) (dls : Nat → Int) : Prop where
  dl : ∀ t, t < f.s.n → f.s.st t = 1 → f.s.dl t = dls t
  p1 : ∀ t, 1 ≤ f.pc t ∧ f.pc t ≤ 8
  p8 : ∀ t, t < f.s.n → f.pc t = 8 → f.s.st t = 1 ∧ 0 ≤ f.s.dl t ∧ f.s.dl t ≤ now
namespace LtI
variable {f : FL} {now : Int} {dls : Nat → Int} {L : Lp}
theorem later (h : LtI f now dls) {x : Int} (hx : now ≤ x) : LtI f x dls := ⟨h.dl, h.p1, fun t ht hp => by have := h.p8 t ht hp; omega⟩
theorem lock (h : LtI f now dls) (t d : Int) : LtI (f.lock t d) now (if lockE f.s t d = 0 then upd dls t.toNat d else dls) := by
  unfold FL.lock SS.lock
  by_cases he : lockE f.s t d = 0
  · rw [if_pos he, if_pos he]
    have hs : f.s.st t.toNat = 0 := by
      unfold lockE at he
      split at he
      · split at he
        · assumption
        · omega
      · omega
    refine ⟨fun j hj h1 => ?_, h.p1, fun j hj hp => ?_⟩
    · show upd f.s.dl t.toNat d j = upd dls t.toNat d j
      by_cases q : j = t.toNat
      · subst q; rw [upd_same, upd_same]
      · rw [upd_other _ _ q, upd_other _ _ q]
        replace h1 : upd f.s.st t.toNat 1 j = 1 := h1
        rw [upd_other _ _ q] at h1
        exact h.dl j hj h1
    · show upd f.s.st t.toNat 1 j = 1 ∧ 0 ≤ upd f.s.dl t.toNat d j ∧ upd f.s.dl t.toNat d j ≤ now
      have := h.p8 j hj hp
      by_cases q : j = t.toNat
      · subst q; omega
      · rw [upd_other _ _ q, upd_other _ _ q]; exact this
  · rw [if_neg he, if_neg he]; exact h
theorem turn (h : LtI f now dls) (t x : Int) (hx : x ≠ 1) : LtI (f.turn t x) now dls := by
  unfold FL.turn SS.turn
  by_cases he : turnE f.s t = 0
  · rw [if_pos he]
    have hs : f.s.st t.toNat = 2 := by
      unfold turnE at he
      split at he
      · split at he
        · omega
        · split at he
          · assumption
          · omega
      · omega
    refine ⟨fun j hj h1 => ?_, h.p1, fun j hj hp => ?_⟩
    · replace h1 : upd f.s.st t.toNat x j = 1 := h1
      show upd f.s.dl t.toNat _ j = _
      by_cases q : j = t.toNat
      · subst q; rw [upd_same] at h1; exact absurd h1 hx
      · rw [upd_other _ _ q] at h1 ⊢
        exact h.dl j hj h1
    · show upd f.s.st t.toNat x j = 1 ∧ 0 ≤ upd f.s.dl t.toNat _ j ∧ upd f.s.dl t.toNat _ j ≤ now
      have := h.p8 j hj hp
      by_cases q : j = t.toNat
      · subst q; omega
      · rw [upd_other _ _ q, upd_other _ _ q]; exact this
  · rw [if_neg he]; exact h
/-- a step: who gives up has waited long enough -/
theorem step (h : LtI f now dls) (t u : Int) : LtI (f.step L t u now) now dls ∧ ((f.did L t u now).ev = 2 → ∃ k : Nat, t = k ∧ k < f.s.n ∧ 0 ≤ dls k ∧ dls k ≤ now) := by
  by_cases ht : 0 ≤ t ∧ t < f.s.n
  · obtain ⟨k, rfl⟩ := Int.eq_ofNat_of_zero_le ht.1
    have hk : k < f.s.n := by omega
    have eT : Int.toNat (k : Int) = k := Int.toNat_natCast k
    have fst : ∀ ev, (f.s.fin k ev).st k = (behindI (f.s.st k) ev).getD (f.s.st k) := fun ev => by
      cases hb : behindI (f.s.st k) ev with
      | none => rw [fin_none hb]; rfl
      | some y => rw [fin_some hk hb]; exact upd_same _ _ _
    have fso : ∀ ev j, j ≠ k → (f.s.fin k ev).st j = f.s.st j ∧ (f.s.fin k ev).dl j = f.s.dl j := fun ev j hj => by
      cases hb : behindI (f.s.st k) ev with
      | none => rw [fin_none hb]; exact ⟨rfl, rfl⟩
      | some y => rw [fin_some hk hb]; exact ⟨upd_other _ _ hj, upd_other _ _ hj⟩
    have fdl : ∀ ev, (f.s.fin k ev).st k = 1 → f.s.st k = 1 ∧ (f.s.fin k ev).dl k = f.s.dl k := fun ev h1 => by
      cases hb : behindI (f.s.st k) ev with
      | none => rw [fin_none hb] at h1 ⊢; exact ⟨h1, rfl⟩
      | some y =>
        rw [fin_some hk hb] at h1
        replace h1 : upd f.s.st k y k = 1 := h1
        rw [upd_same] at h1
        subst h1
        unfold behindI at hb
        repeat' split at hb
        all_goals simp at hb
    have fn : ∀ ev, (f.s.fin k ev).n = f.s.n := fun ev => f.s.fin_n k ev
    -- the steps of the others stay
    have hoth : ∀ j, j ≠ k → (f.mid L k u now).pc j = f.pc j := fun j hj => by
      unfold FL.mid
      rw [if_pos ht, eT]
      split
      · exact acq_other f L k u now hj
      · split
        · exact rel_other f L k u hj
        · rfl
    -- who comes to its last step
    have hk8 : (f.mid L k u now).pc k = 8 → f.s.st k = 1 ∧ (f.did L k u now).ev = 0 ∧ 0 ≤ f.s.dl k ∧ f.s.dl k ≤ now := by
      have h8 := h.p8 k hk
      unfold FL.mid FL.did
      rw [if_pos ht, if_pos ht, eT]
      by_cases s1 : f.s.st k = 1
      · rw [if_pos s1, if_pos s1]
        unfold FL.acq FL.acqD
        intro hp
        by_cases p1 : f.pc k = 1
        · rw [if_pos p1] at hp
          replace hp : upd f.pc k _ k = 8 := hp
          rw [upd_same] at hp
          split at hp <;> omega
        rw [if_neg p1] at hp ⊢
        by_cases p2 : f.pc k = 2
        · rw [if_pos p2] at hp; replace hp : upd f.pc k _ k = 8 := hp; rw [upd_same] at hp; omega
        rw [if_neg p2] at hp ⊢
        by_cases p3 : f.pc k = 3
        · rw [if_pos p3] at hp; replace hp : upd f.pc k _ k = 8 := hp; rw [upd_same] at hp; omega
        rw [if_neg p3] at hp ⊢
        by_cases p4 : f.pc k = 4
        · rw [if_pos p4] at hp; replace hp : upd f.pc k _ k = 8 := hp; rw [upd_same] at hp; omega
        rw [if_neg p4] at hp ⊢
        by_cases p5 : f.pc k = 5
        · rw [if_pos p5] at hp; replace hp : upd f.pc k _ k = 8 := hp; rw [upd_same] at hp; split at hp <;> omega
        rw [if_neg p5] at hp ⊢
        by_cases p6 : f.pc k = 6
        · rw [if_pos p6] at hp; replace hp : upd f.pc k _ k = 8 := hp; rw [upd_same] at hp; omega
        rw [if_neg p6] at hp ⊢
        by_cases p7 : f.pc k = 7
        · rw [if_pos p7] at hp ⊢
          replace hp : upd f.pc k _ k = 8 := hp
          rw [upd_same] at hp
          split at hp
          · omega
          · rename_i q
            rw [if_neg q]
            split at hp
            · rename_i hd
              exact ⟨s1, rfl, hd.1, hd.2⟩
            · omega
        · rw [if_neg p7] at hp; replace hp : upd f.pc k _ k = 8 := hp; rw [upd_same] at hp; omega
      · rw [if_neg s1, if_neg s1]
        have n8 : f.pc k ≠ 8 := fun q => s1 (h8 q).1
        intro hp
        exfalso
        split at hp
        · exact rel_eight f L k u hp
        · exact n8 hp
    refine ⟨⟨fun j hj h1 => ?_, fun j => ?_, fun j hj hp => ?_⟩, fun hev => ?_⟩
    · have hj2 : j < f.s.n := by rw [← fn (f.did L k u now).ev]; exact hj
      clear hj
      show (f.s.fin k (f.did L k u now).ev).dl j = dls j
      replace h1 : (f.s.fin k (f.did L k u now).ev).st j = 1 := h1
      by_cases q : j = k
      · subst q
        obtain ⟨w1, w2⟩ := fdl _ h1
        rw [w2]; exact h.dl j hj2 w1
      · rw [(fso _ j q).1] at h1
        rw [(fso _ j q).2]; exact h.dl j hj2 h1
    · show 1 ≤ (f.mid L k u now).pc j ∧ (f.mid L k u now).pc j ≤ 8
      by_cases q : j = k
      · subst q; exact mid_rng f L ht (h.p1 j)
      · rw [hoth j q]; exact h.p1 j
    · have hj2 : j < f.s.n := by rw [← fn (f.did L k u now).ev]; exact hj
      clear hj
      show (f.s.fin k (f.did L k u now).ev).st j = 1 ∧ 0 ≤ (f.s.fin k (f.did L k u now).ev).dl j ∧ (f.s.fin k (f.did L k u now).ev).dl j ≤ now
      replace hp : (f.mid L k u now).pc j = 8 := hp
      by_cases q : j = k
      · subst q
        obtain ⟨w1, w2, w3, w4⟩ := hk8 hp
        rw [w2, show f.s.fin j 0 = f.s from fin_no f.s j]
        exact ⟨w1, w3, w4⟩
      · rw [(fso _ j q).1, (fso _ j q).2]
        rw [hoth j q] at hp
        exact h.p8 j hj2 hp
    · refine ⟨k, rfl, hk, ?_⟩
      have key : f.s.st k = 1 ∧ f.pc k = 8 ∨ (f.did L k u now).ev ≠ 2 := by
        unfold FL.did
        rw [if_pos ht, eT]
        by_cases s1 : f.s.st k = 1
        · rw [if_pos s1]
          by_cases p8 : f.pc k = 8
          · exact .inl ⟨s1, p8⟩
          · refine .inr ?_
            exact acqD_two f L k u now (h.p1 k) p8
        · rw [if_neg s1]
          refine .inr ?_
          split
          · unfold FL.relD; split <;> decide
          · decide
      rcases key with ⟨w1, w2⟩ | w
      · have := h.p8 k hk w2
        rw [← h.dl k hk w1]
        exact ⟨this.2.1, this.2.2⟩
      · exact absurd hev w
  · have e1 : f.did L t u now = Dd.no := by unfold FL.did; rw [if_neg ht]
    have e2 : f.step L t u now = f := by
      unfold FL.step FL.mid
      rw [e1, if_neg ht]
      have : f.s.fin t Dd.no.ev = f.s := by unfold SS.fin endO; rw [if_neg ht]
      rw [this]
    rw [e1, e2]
    exact ⟨h, fun q => absurd q (by decide)⟩
end LtI
end Go.Proofs.Ytdhpmcafekpfhaa
