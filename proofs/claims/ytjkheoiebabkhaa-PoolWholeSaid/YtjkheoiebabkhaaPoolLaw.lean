/- What holds of every pool is kept by each call; a pool told from the world in which a law was called, its blocks apart from others; the contract of the document's example. -/
import Derived.Test.YtjkheoiebabkhaaPoolNew
namespace Go.Proofs.Ytjkheoiebabkhaa
open Go.RowKit
set_option linter.unusedVariables false

/-! ### what is kept -/
theorem PInv.setOut {s : PS} (h : PInv s) (id : Nat) (b : Bool) : PInv (s.setOut id b) := ⟨h.n1, h.n2, h.T2, h.mem, h.all, h.nodup⟩
theorem PInv.back {s : PS} (h : PInv s) (id : Int) : PInv (s.back id) := by
  unfold PS.back
  split
  · exact h.setOut _ _
  · exact h
theorem mem_without {l : List Nat} {id x : Nat} : x ∈ without l id ↔ x ∈ l ∧ x ≠ id := by
  unfold without
  rw [List.mem_filter]
  simp
theorem PInv.give {s : PS} (h : PInv s) {id : Nat} {to : Int} (h1 : 1 ≤ id) (h2 : id ≤ s.n) (hto : to = -1 ∨ (0 ≤ to ∧ to < s.T)) : PInv (s.give id to) := by
  refine ⟨h.n1, h.n2, h.T2, fun t x ht hx => ?_, fun x x1 x2 => ?_, fun t ht => ?_⟩
  · have hx' : x ∈ without (s.row t) id ++ (if to = (t : Int) then [id] else []) := hx
    rw [List.mem_append] at hx'
    rcases hx' with hx' | hx'
    · obtain ⟨a, b⟩ := mem_without.1 hx'
      have := h.mem t x ht a
      refine ⟨this.1, this.2.1, ?_⟩
      show upd s.own id to x = _
      rw [upd_other _ _ b]
      exact this.2.2
    · split at hx'
      · rename_i e
        obtain rfl : x = id := by simpa using hx'
        refine ⟨h1, h2, ?_⟩
        show upd s.own x to x = _
        rw [upd_same, e]
      · simp at hx'
  · show upd s.own id to x = -1 ∨ _
    by_cases e : x = id
    · subst e
      rw [upd_same]
      rcases hto with e | ⟨t0, t1⟩
      · exact .inl e
      · obtain ⟨t, rfl⟩ := Int.eq_ofNat_of_zero_le t0
        refine .inr ⟨t, by show t < s.T; omega, ?_, ?_⟩
        · show upd s.own x _ x = _
          rw [upd_same]
        · show x ∈ without (s.row t) x ++ (if (t : Int) = (t : Int) then [x] else [])
          rw [if_pos rfl]
          simp
    · rw [upd_other _ _ e]
      rcases h.all x x1 x2 with y | ⟨t, ht, e1, e2⟩
      · exact .inl y
      · refine .inr ⟨t, ht, ?_, ?_⟩
        · show upd s.own id to x = _
          rw [upd_other _ _ e]
          exact e1
        · show x ∈ without (s.row t) id ++ _
          exact List.mem_append_left _ (mem_without.2 ⟨e2, e⟩)
  · show (without (s.row t) id ++ (if to = (t : Int) then [id] else [])).Nodup
    have hd := h.nodup t ht
    have hw : (without (s.row t) id).Nodup := hd.filter _
    split
    · rw [List.nodup_append]
      refine ⟨hw, by simp, fun a ha b hb e => ?_⟩
      obtain rfl : b = id := by simpa using hb
      exact (mem_without.1 ha).2 e
    · rw [List.append_nil]
      exact hw

/-! ### a pool, told from a law's world on -/
structure PAt (w0 w : World) (A : Nat → Prop) (p : Nat) (s : PS) : Prop where
  ex : ∃ q : Pp, q.p = p ∧ PoolAt w q s ∧ ∀ k, q.F s.T k → w0.heap.size ≤ k ∧ ¬ A k
  lt : ∀ k, A k → k < w.heap.size
  wrote : Wrote Nil w0 w
  inv : PInv s
/-- what a call may have turned of what was there -/
def Far (w0 : World) (A : Nat → Prop) (k : Nat) : Prop := w0.heap.size ≤ k ∧ ¬ A k
theorem PAt.after {w0 w w' : World} {A A' : Nat → Prop} {p : Nat} {s : PS} (h : PAt w0 w A p s) (hW : Wrote Nil w w') (hA : ∀ k, A' k → k < w'.heap.size ∧ (A k ∨ w.heap.size ≤ k)) : PAt w0 w' A' p s := by
  obtain ⟨⟨q, hp, hP, hF⟩, hl, hw, hI⟩ := h
  refine ⟨⟨q, hp, hP.after hW, fun k hk => ⟨(hF k hk).1, fun a => ?_⟩⟩, fun k hk => (hA k hk).1, hw.nil hW, hI⟩
  rcases (hA k a).2 with x | x
  · exact (hF k hk).2 x
  · have := hP.lt hk
    omega
theorem PAt.same {w0 w w' : World} {A : Nat → Prop} {p : Nat} {s : PS} (h : PAt w0 w A p s) (hW : Wrote Nil w w') : PAt w0 w' A p s :=
  h.after hW fun k hk => ⟨Nat.lt_of_lt_of_le (h.lt k hk) hW.size, .inl hk⟩
theorem PAt.step {w0 w w' : World} {A : Nat → Prop} {q : Pp} {s s' : PS} (hP : PoolAt w q s) (hF : ∀ k, q.F s.T k → w0.heap.size ≤ k ∧ ¬ A k) (hl : ∀ k, A k → k < w.heap.size) (hw : Wrote Nil w0 w) (hI : PInv s') (hT : s'.T = s.T)
    {q' : Pp} (hp : q'.p = q.p) (hP' : PoolAt w' q' s') (hW : Wrote (q.F s.T) w w') (hG : Grew w (q.F s.T) (q'.F s.T)) : PAt w0 w' A q.p s' ∧ Wrote (Far w0 A) w w' := by
  refine ⟨⟨⟨q', hp, hP', fun k hk => ?_⟩, fun k hk => Nat.lt_of_lt_of_le (hl k hk) hW.size, hw.trans hW fun b hb x => absurd (hF b x).1 (by omega), hI⟩, hW.mono fun b _ x => hF b x⟩
  rw [hT] at hk
  rcases hG k hk with x | x
  · exact hF k x
  · refine ⟨?_, fun a => ?_⟩
    · have := hw.size
      omega
    · have := hl k a
      omega

theorem pa_new {w0 w : World} (h0 : Wrote Nil w0 w) (T e : Nat) (t1 : 1 ≤ T) (t2 : T ≤ 64) (e1 : 1 ≤ e) (e2 : e ≤ 8) :
    Calls Try.prog 7 #[.int .i64 (T : Int), .int .i64 (e : Int)] w fun en w' => ∃ p, en = .returned (.tuple #[.pointer (some ⟨p, 0, none⟩), .int .i64 0]) ∧ PAt w0 w' (fun _ => False) p (newS T e) := by
  refine (po_new T e t1 t2 e1 e2 w).mono ?_
  rintro en w' ⟨q, rfl, hP, hF, hW⟩
  exact ⟨q.p, rfl, ⟨q, rfl, hP, fun k hk => ⟨by have := hF k hk; have := h0.size; omega, id⟩⟩, fun _ x => x.elim, h0.nil hW, new_inv t1 t2 e1 e2⟩
theorem pa_len {w0 w : World} {A : Nat → Prop} {p : Nat} {s : PS} (h : PAt w0 w A p s) :
    Calls Try.prog 18 #[.pointer (some ⟨p, 0, none⟩)] w fun e w' => e = .returned (.int .i64 (s.n : Nat)) ∧ w = w' := by
  obtain ⟨⟨q, rfl, hP, _⟩, _⟩ := h
  exact po_len hP
theorem pa_of {w0 w : World} {A : Nat → Prop} {p : Nat} {s : PS} (h : PAt w0 w A p s) (id : Int) :
    Calls Try.prog 17 #[.pointer (some ⟨p, 0, none⟩), .int .i64 id] w fun e w' => e = .returned (.int .i64 (ofI s id)) ∧ w = w' := by
  obtain ⟨⟨q, rfl, hP, _⟩, _, _, hI⟩ := h
  have := hI.n2
  exact po_of hP (by omega) id
theorem pa_out {w0 w : World} {A : Nat → Prop} {p : Nat} {s : PS} (h : PAt w0 w A p s) (id : Int) :
    Calls Try.prog 19 #[.pointer (some ⟨p, 0, none⟩), .int .i64 id] w fun e w' => e = .returned (.bool (outI s id)) ∧ w = w' := by
  obtain ⟨⟨q, rfl, hP, _⟩, _, _, hI⟩ := h
  have := hI.n2
  exact po_out hP (by omega) id
theorem rowI_len {s : PS} (hI : PInv s) (t : Int) : (s.rowI t).length ≤ 512 := by
  unfold PS.rowI
  split
  · have := hI.len (show t.toNat < s.T by omega)
    have := hI.n2
    omega
  · simp
theorem pa_row {w0 w : World} {A : Nat → Prop} {p : Nat} {s : PS} (h : PAt w0 w A p s) (t : Int) :
    Calls Try.prog 16 #[.pointer (some ⟨p, 0, none⟩), .int .i64 t] w (RowPost w (s.rowI t)) := by
  obtain ⟨⟨q, rfl, hP, _⟩, _, _, hI⟩ := h
  have := rowI_len hI t
  exact po_row hP t (by omega)
/-- is it a giving? -/
abbrev okG (s : PS) (id to : Int) : Prop := (1 ≤ id ∧ id ≤ s.n) ∧ (to = -1 ∨ (0 ≤ to ∧ to < s.T))
def giveE (s : PS) (id to : Int) : Int := if okG s id to then 0 else 1
def PS.giveI (s : PS) (id to : Int) : PS := if okG s id to then s.give id.toNat to else s
theorem giveI_nT (s : PS) (id to : Int) : (s.giveI id to).n = s.n ∧ (s.giveI id to).T = s.T := by
  unfold PS.giveI
  split <;> exact ⟨rfl, rfl⟩
def GivePost (w0 : World) (A : Nat → Prop) (p : Nat) (s : PS) (id to : Int) (w : World) (e : Ending) (w' : World) : Prop :=
  e = .returned (.int .i64 (giveE s id to)) ∧ PAt w0 w' A p (s.giveI id to) ∧ Wrote (Far w0 A) w w'
theorem pa_give {w0 w : World} {A : Nat → Prop} {p : Nat} {s : PS} (h : PAt w0 w A p s) (id to : Int) :
    Calls Try.prog 14 #[.pointer (some ⟨p, 0, none⟩), .int .i64 id, .int .i64 to] w (GivePost w0 A p s id to w) := by
  have h' := h
  obtain ⟨⟨q, rfl, hP, hF⟩, hl, hw, hI⟩ := h
  by_cases hok : okG s id to
  · obtain ⟨k, rfl⟩ : ∃ k : Nat, id = (k : Int) + 1 := ⟨(id - 1).toNat, by have := hok.1; omega⟩
    have hk : k < s.n := by have := hok.1; omega
    refine (po_give_yes hP hI k hk to hok.2).mono ?_
    rintro e w' ⟨rfl, q', hp, hP', hW, hG⟩
    have e1 : s.giveI ((k : Int) + 1) to = s.give (k + 1) to := by
      unfold PS.giveI
      rw [if_pos hok, show ((k : Int) + 1).toNat = k + 1 by omega]
    refine ⟨by unfold giveE; rw [if_pos hok], ?_⟩
    rw [e1]
    exact PAt.step hP hF hl hw (hI.give (by omega) (by omega) hok.2) rfl hp hP' hW hG
  · refine (po_give_no hP hI id to hok).mono ?_
    rintro e w' ⟨rfl, hW⟩
    refine ⟨by unfold giveE; rw [if_neg hok], ?_, hW.mono fun _ _ x => x.elim⟩
    unfold PS.giveI
    rw [if_neg hok]
    exact h'.same hW

/-! ### the document's example -/
def AwRow (w : World) (p : Nat) (e : Ending) (w' : World) : Prop :=
  ∃ g cap, e = .returned (.slice (some ⟨g, 0, none⟩) 2 cap) ∧ w'.cell? ⟨g, 0, none⟩ = some (.int .i64 3) ∧ w'.cell? ⟨g, 1, none⟩ = some (.int .i64 4) ∧ PAt w w' (fun _ => False) p (newS 2 2)
theorem aw_row {w w1 : World} {p : Nat} (h : PAt w w1 (fun _ => False) p (newS 2 2)) : Calls Try.prog 16 #[.pointer (some ⟨p, 0, none⟩), .int .i64 1] w1 (AwRow w p) := by
  have c := pa_row h 1
  rw [show (newS 2 2).rowI 1 = [3, 4] from by decide] at c
  refine c.mono ?_
  rintro e w2 ⟨so, cap, rfl, hown, hW⟩
  rcases row_cell hown with h0 | ⟨g, rfl, hc⟩
  · exact absurd h0 (by decide)
  · exact ⟨g, cap, rfl, hc 0 3 rfl, hc 1 4 rfl, h.same hW⟩
def AwNew (w : World) (e : Ending) (w' : World) : Prop := ∃ p, e = .returned (.tuple #[.pointer (some ⟨p, 0, none⟩), .int .i64 0]) ∧ PAt w w' (fun _ => False) p (newS 2 2)
theorem aw_new (w : World) : Calls Try.prog 7 #[.int .i64 2, .int .i64 2] w (AwNew w) := pa_new (Wrote.refl Nil w) 2 2 (by decide) (by decide) (by decide) (by decide)
set_option maxRecDepth 100000 in
set_option maxHeartbeats 1000000 in
theorem po_awake (w : World) :
    Calls Try.prog 6 #[] w fun e w' => e = .returned (.bool true) ∧ Wrote Nil w w' := by
  go_enter Try.func6, Try.ntmps6
  go_wp2_with (first
    | (go_at_call 7; with_reducible refine (aw_new w).mono ?_; intro e w1 h1; unfold AwNew at h1; obtain ⟨p, rfl, hP⟩ := h1)
    | (go_at_call 16; with_reducible refine (aw_row hP).mono ?_; intro e w2 hr; unfold AwRow at hr; obtain ⟨g, cap, rfl, c0, c1, hP2⟩ := hr)
    | (go_at_call 18; have c : Calls Try.prog 18 #[.pointer (some ⟨p, 0, none⟩)] w2 fun e w' => e = .returned (.int .i64 4) ∧ w2 = w' := pa_len hP2; with_reducible refine c.mono ?_; rintro e w' ⟨rfl, rfl⟩))
  go_ret
  exact ⟨rfl, hP2.wrote⟩
end Go.Proofs.Ytjkheoiebabkhaa
