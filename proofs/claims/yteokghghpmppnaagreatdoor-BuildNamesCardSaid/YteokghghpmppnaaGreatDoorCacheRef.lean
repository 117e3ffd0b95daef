/- The contracts of the reference's functions on touches (looked back at), and what the cache's rows have to do with them. -/
import Derived.Test.YteokghghpmppnaaGreatDoorCacheNew
import Derived.Test.YteokghghpmppnaaGreatDoorRecs
namespace Go.Proofs.YteokghghpmppnaaGreatDoor
open Go.RowKit
set_option linter.unusedVariables false
set_option maxRecDepth 100000

theorem touch_i {c bc bm : Nat} {cs ms : List Nat} {lim : Nat} {w : World} (h : CacheAt w c bc bm cs ms lim) (t a : Int) (wr : Bool) (ht : 0 ≤ t ∧ t < ms.length) (ha : 0 ≤ a ∧ a < cs.length) (hl : lim < 4611686018427387904) :
    Calls Tryz.prog 71 #[.pointer (some ⟨c, 0, none⟩), .int .i64 t, .int .i64 a, .bool wr] w (TouchPost c bc bm cs ms lim t.toNat a.toNat wr w) := by
  obtain ⟨t, rfl⟩ := Int.eq_ofNat_of_zero_le ht.1
  obtain ⟨a, rfl⟩ := Int.eq_ofNat_of_zero_le ha.1
  exact touch_there h t a wr (by omega) (by omega) hl

theorem touchC_len (cs : List Nat) (t a : Nat) (wr : Bool) : (touchC cs t a wr).length = cs.length := by simp [touchC]
theorem touchM_len (cs ms : List Nat) (t a : Nat) (wr : Bool) : (touchM cs ms t a wr).length = ms.length := by unfold touchM; split <;> simp
theorem drewN_two (w : World) (a b : Nat) : (w.drewN a).drewN b = w.drewN (a + b) := by simp [World.drewN, Nat.add_assoc]

/-! ### the answers by definition: touches, looked back at -/
/-- a touch: thread, word, is it a write? -/
abbrev Tch := Int × Int × Bool
def tchCells (x : Tch) : List Value := [.int .i64 x.1, .int .i64 x.2.1, .bool x.2.2]
theorem tch_len (x : Tch) : (tchCells x).length = 3 := rfl
theorem tch_ne (x : Tch) : tchCells x ≠ [] := by intro h; cases h
/-- has t a valid copy of a behind one touch more? -/
def hasStep (b : Bool) (x : Tch) (t a : Int) : Bool := if x.2.1 = a then (if x.1 = t then true else if x.2.2 then false else b) else b
def hasR : List Tch → Int → Int → Bool
  | [], _, _ => false
  | x :: r, t, a => hasStep (hasR r t a) x t a
def hasL (D : List Tch) (t a : Int) : Bool := hasR D.reverse t a
theorem hasL_nil (t a : Int) : hasL [] t a = false := rfl
theorem hasL_snoc (D : List Tch) (x : Tch) (t a : Int) : hasL (D ++ [x]) t a = hasStep (hasL D t a) x t a := by simp [hasL, hasR]
theorem hasL_take {D : List Tch} {k : Nat} {x : Tch} (hx : D[k]? = some x) (t a : Int) : hasL (D.take (k + 1)) t a = hasStep (hasL (D.take k) t a) x t a := by
  obtain ⟨hk, rfl⟩ := List.getElem?_eq_some_iff.1 hx
  rw [List.take_succ_eq_append_getElem hk, hasL_snoc]

/-- the others that have a copy, of the first k threads -/
def othersL (D : List Tch) (t a : Int) (k : Nat) : Bool := (List.range k).any fun (u : Nat) => !decide ((u : Int) = t) && hasL D u a
def missL (D : List Tch) (t a : Int) (wr : Bool) (n : Nat) : Bool := !hasL D t a || (wr && othersL D t a n)
theorem others_step (D : List Tch) (t a : Int) (k : Nat) : othersL D t a (k + 1) = (othersL D t a k || (!decide ((k : Int) = t) && hasL D k a)) := by
  simp [othersL, List.range_succ]
theorem others_more {D : List Tch} {t a : Int} {k n : Nat} (h : othersL D t a k = true) (hk : k ≤ n) : othersL D t a n = true := by
  unfold othersL at *
  rw [List.any_eq_true] at *
  obtain ⟨u, hu, hb⟩ := h
  exact ⟨u, by simp at *; omega, hb⟩

/-! ### what the rows have to do with the touches -/
theorem eq_pow {x t n : Nat} (hx : x < 2 ^ n) (ht : t < n) : x = 2 ^ t ↔ x.testBit t = true ∧ ∀ u, u < n → u ≠ t → x.testBit u = false := by
  constructor
  · rintro rfl
    exact ⟨by simp [], fun u _ hu => by simp [Ne.symm hu]⟩
  · rintro ⟨h1, h2⟩
    apply Nat.eq_of_testBit_eq
    intro i
    rw [Nat.testBit_two_pow]
    by_cases e : t = i
    · subst e; simp [h1]
    · by_cases hi : i < n
      · rw [h2 i hi (Ne.symm e)]; simp [e]
      · rw [Nat.testBit_lt_two_pow (Nat.lt_of_lt_of_le hx (Nat.pow_le_pow_right (by decide) (by omega)))]; simp [e]

/-- the rows are as the touches say -/
def Rel (cs : List Nat) (n : Nat) (D : List Tch) : Prop := ∀ a, a < cs.length → ∀ t, t < n → (cs.getD a 0).testBit t = hasL D t a

theorem rel_new (words n : Nat) : Rel (List.replicate words 0) n [] := by
  intro a ha t ht
  have : (List.replicate words 0).getD a 0 = 0 := by
    rw [List.getD_eq_getElem?_getD, List.getElem?_replicate]
    split <;> rfl
  rw [this, hasL_nil]
  simp

theorem rel_miss {cs : List Nat} {n : Nat} {D : List Tch} (h : Rel cs n D) {t a : Nat} (ht : t < n) (ha : a < cs.length) (hf : cs.getD a 0 < 2 ^ n) (wr : Bool) : missB cs t a wr = missL D t a wr n := by
  unfold missB missL
  cases wr
  · rw [if_neg (by decide), h a ha t ht]
    simp
  · rw [if_pos rfl, Bool.true_and]
    by_cases e : cs.getD a 0 = 2 ^ t
    · obtain ⟨e1, e2⟩ := (eq_pow hf ht).1 e
      rw [h a ha t ht] at e1
      have e3 : othersL D t a n = false := by
        unfold othersL
        rw [List.any_eq_false]
        intro u hu
        simp only [List.mem_range] at hu
        by_cases q : u = t
        · simp [q]
        · have := e2 u hu q
          rw [h a ha u hu] at this
          simp [this]
      simp only [e, decide_true, e1, e3, Bool.not_true, Bool.or_false]
    · rw [decide_eq_false e]
      cases e1 : hasL D t a
      · rfl
      · have e2 : othersL D t a n = true := by
          rw [← Bool.not_eq_false]
          intro e3
          apply e
          refine (eq_pow hf ht).2 ⟨by rw [h a ha t ht, e1], fun u hu hne => ?_⟩
          rw [h a ha u hu]
          unfold othersL at e3
          rw [List.any_eq_false] at e3
          have := e3 u (by simpa using hu)
          have hne' : ¬ (u : Int) = t := by omega
          simpa [hne'] using this
        rw [e2]
        rfl

theorem rel_touch {cs : List Nat} {n : Nat} {D : List Tch} (h : Rel cs n D) {t a : Nat} (ht : t < n) (ha : a < cs.length) (wr : Bool) : Rel (touchC cs t a wr) n (D ++ [((t : Int), (a : Int), wr)]) := by
  intro a' ha' u hu
  have hl : (touchC cs t a wr).length = cs.length := by simp [touchC]
  rw [hl] at ha'
  rw [hasL_snoc]
  unfold touchC hasStep
  by_cases e : a = a'
  · subst e
    have h1 : (cs.set a (if wr = true then 2 ^ t else cs.getD a 0 ||| 2 ^ t)).getD a 0 = if wr = true then 2 ^ t else cs.getD a 0 ||| 2 ^ t := by simp [ha]
    rw [h1]
    by_cases q : t = u
    · subst q
      cases wr <;> simp []
    · have q' : ¬ (t : Int) = u := by omega
      have h2 := h a ha u hu
      cases wr <;> simp [q, q']
      rw [← h2]
      simp [ha]
  · have e' : ¬ (a : Int) = a' := by omega
    have h1 : (cs.set a (if wr = true then 2 ^ t else cs.getD a 0 ||| 2 ^ t)).getD a' 0 = cs.getD a' 0 := by simp [e]
    rw [h1, h a' ha' u hu]
    simp [e']
end Go.Proofs.YteokghghpmppnaaGreatDoor
