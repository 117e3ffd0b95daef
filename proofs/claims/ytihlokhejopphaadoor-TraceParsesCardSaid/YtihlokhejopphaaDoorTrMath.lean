/- Entries of a trace, their lines, and what is read of lines: the mathematics; no program is named. -/
import Derived.Lib.ItoaNum
import Derived.Lib.Split
import Derived.Lib.AtoiAll
import Derived.Lib.AtoiTie
import Derived.Lib.Strings
namespace Go.Proofs.YtihlokhejopphaaDoor
open Go.Lib
set_option linter.unusedVariables false

/-- an entry -/
structure Ent where
  k : Int
  t : Int
  n : Int
  ld : Bool

/-- the words of the kinds -/
def wordL : Nat → List UInt8
  | 1 => [99, 97, 108, 108]
  | 2 => [101, 110, 113]
  | 3 => [97, 114, 114, 105, 118, 101]
  | 4 => [103, 114, 97, 110, 116]
  | 5 => [116, 105, 109, 101, 111, 117, 116]
  | 6 => [117, 110, 108, 111, 99, 107]
  | 7 => [114, 101, 116, 117, 114, 110]
  | 8 => [114, 101, 102, 117, 115, 101]
  | _ => []
def leadL : List UInt8 := [108, 101, 97, 100]
def mayE (e : Ent) : Bool := decide (1 ≤ e.k ∧ e.k ≤ 8 ∧ 0 ≤ e.t ∧ e.t ≤ 63 ∧ 0 ≤ e.n ∧ e.n ≤ 1099511627776 ∧ (e.ld = true → e.k = 4))
theorem may_iff (e : Ent) : mayE e = true ↔ 1 ≤ e.k ∧ e.k ≤ 8 ∧ 0 ≤ e.t ∧ e.t ≤ 63 ∧ 0 ≤ e.n ∧ e.n ≤ 1099511627776 ∧ (e.ld = true → e.k = 4) := by unfold mayE; exact decide_eq_true_iff

/-- an entry's line without its end -/
def lineL (e : Ent) : List UInt8 := wordL e.k.toNat ++ 32 :: (decDigits e.t.toNat ++ 32 :: (decDigits e.n.toNat ++ if e.ld then 32 :: leadL else []))
def lineE (e : Ent) : List UInt8 := lineL e ++ [10]
def textOf (l : List Ent) : List UInt8 := l.flatMap lineE

/-! words -/
theorem word_no (k : Nat) (c : UInt8) (h : c ∈ wordL k) : c ≠ 32 ∧ c ≠ 10 := by
  unfold wordL at h
  split at h <;> simp at h <;> (rcases h with h | h | h | h | h | h | h) <;> (try subst h) <;> (try decide) <;> (rcases h with h | h | h | h | h | h) <;> subst h <;> decide
def kindL : List UInt8 → Int
  | [99, 97, 108, 108] => 1
  | [101, 110, 113] => 2
  | [97, 114, 114, 105, 118, 101] => 3
  | [103, 114, 97, 110, 116] => 4
  | [116, 105, 109, 101, 111, 117, 116] => 5
  | [117, 110, 108, 111, 99, 107] => 6
  | [114, 101, 116, 117, 114, 110] => 7
  | [114, 101, 102, 117, 115, 101] => 8
  | _ => 0
theorem kind_word (k : Int) (h1 : 1 ≤ k) (h8 : k ≤ 8) : kindL (wordL k.toNat) = k := by
  have : k = 1 ∨ k = 2 ∨ k = 3 ∨ k = 4 ∨ k = 5 ∨ k = 6 ∨ k = 7 ∨ k = 8 := by omega
  rcases this with rfl | rfl | rfl | rfl | rfl | rfl | rfl | rfl <;> rfl
theorem word_kind (p : List UInt8) (h : kindL p ≠ 0) : wordL (kindL p).toNat = p ∧ 1 ≤ kindL p ∧ kindL p ≤ 8 := by
  revert h
  unfold kindL
  split <;> intro h <;> first | exact ⟨rfl, by decide, by decide⟩ | (exact absurd rfl h)

/-! digits -/
def isDig (c : UInt8) : Bool := decide (48 ≤ c.toNat ∧ c.toNat ≤ 57)
theorem dig_of {m : Nat} (h : m < 10) : isDig (UInt8.ofNat (48 + m)) = true ∧ (UInt8.ofNat (48 + m)).toNat - 48 = m := by
  have : (UInt8.ofNat (48 + m)).toNat = 48 + m := by rw [UInt8.toNat_ofNat']; omega
  simp [isDig]; omega
theorem of_dig {c : UInt8} (h : isDig c = true) : UInt8.ofNat (48 + (c.toNat - 48)) = c := by
  simp only [isDig, decide_eq_true_eq] at h
  rw [show 48 + (c.toNat - 48) = c.toNat by omega]
  simp
/-- what digits say -/
def valD (p : List UInt8) : Nat := p.foldl (fun a c => a * 10 + (c.toNat - 48)) 0
theorem val_snoc (p : List UInt8) (c : UInt8) : valD (p ++ [c]) = valD p * 10 + (c.toNat - 48) := by simp [valD]
theorem dec_big {u : Nat} (h : ¬ u < 10) : decDigits u = decDigits (u / 10) ++ [UInt8.ofNat (48 + u % 10)] := by rw [decDigits, dif_neg h]
theorem dec_dig (u : Nat) : ∀ c ∈ decDigits u, isDig c = true := by
  induction u using Nat.strongRecOn with
  | ind u ih =>
    by_cases h : u < 10
    · rw [decDigits_one h]
      intro c hc
      rw [List.mem_singleton] at hc
      subst hc
      exact (dig_of h).1
    · rw [dec_big h]
      intro c hc
      rcases List.mem_append.1 hc with hc | hc
      · exact ih (u / 10) (by omega) c hc
      · rw [List.mem_singleton] at hc
        subst hc
        exact (dig_of (by omega)).1
theorem dec_ne (u : Nat) : decDigits u ≠ [] := by
  by_cases h : u < 10
  · rw [decDigits_one h]; simp
  · rw [dec_big h]; simp
theorem val_dec (u : Nat) : valD (decDigits u) = u := by
  induction u using Nat.strongRecOn with
  | ind u ih =>
    by_cases h : u < 10
    · rw [decDigits_one h]
      show 0 * 10 + ((UInt8.ofNat (48 + u)).toNat - 48) = u
      rw [(dig_of h).2]; omega
    · rw [dec_big h, val_snoc, ih (u / 10) (by omega), (dig_of (by omega : u % 10 < 10)).2]
      omega
/-- the first digit of a number is a nought for nought alone -/
theorem dec_head (u : Nat) (h : 1 ≤ u) : ∃ c r, decDigits u = c :: r ∧ c ≠ 48 := by
  induction u using Nat.strongRecOn with
  | ind u ih =>
    by_cases h10 : u < 10
    · refine ⟨_, [], decDigits_one h10, fun e => ?_⟩
      have := (dig_of h10).2
      rw [e] at this
      simp at this
      omega
    · obtain ⟨c, r, hc, hn⟩ := ih (u / 10) (by omega) (by omega)
      exact ⟨c, r ++ [UInt8.ofNat (48 + u % 10)], by rw [dec_big h10, hc]; rfl, hn⟩
theorem snoc_ind {α : Type} {P : List α → Prop} (h0 : P []) (h1 : ∀ q c, P q → P (q ++ [c])) (p : List α) : P p := by
  rw [← List.reverse_reverse p]
  induction p.reverse with
  | nil => exact h0
  | cons c r ih => rw [List.reverse_cons]; exact h1 _ _ ih
/-- digits without a nought ahead are those of what they say -/
theorem dec_val : ∀ (p : List UInt8), p ≠ [] → (∀ c ∈ p, isDig c = true) → (1 < p.length → p.head? ≠ some 48) → decDigits (valD p) = p ∧ (p.head? ≠ some 48 → 1 ≤ valD p) := by
  intro p
  induction p using snoc_ind with
  | h0 => intro h; exact absurd rfl h
  | h1 q c ih =>
    intro _ hd h0
    have hc := hd c (by simp)
    have hcb : c.toNat - 48 < 10 := by simp only [isDig, decide_eq_true_eq] at hc; omega
    rw [val_snoc]
    cases hq : q with
    | nil =>
      subst hq
      simp only [List.nil_append]
      refine ⟨?_, fun h => ?_⟩
      · rw [show valD [] * 10 + (c.toNat - 48) = c.toNat - 48 by simp [valD], decDigits_one hcb, of_dig hc]
      · have : c ≠ 48 := by simpa using h
        have h48 : c.toNat ≠ 48 := fun e => this (UInt8.toNat_inj.1 (by simpa using e))
        simp only [isDig, decide_eq_true_eq] at hc
        omega
    | cons d r =>
      have hhd : (q ++ [c]).head? = q.head? := by rw [hq]; rfl
      have hne : q ≠ [] := by rw [hq]; simp
      have hq0 : q.head? ≠ some 48 := by rw [← hhd]; exact h0 (by rw [hq]; simp)
      obtain ⟨h1, h2⟩ := ih hne (fun x hx => hd x (by simp [hx])) (fun _ => hq0)
      have h3 := h2 hq0
      rw [← hq]
      refine ⟨?_, fun _ => by omega⟩
      rw [dec_big (by omega), show (valD q * 10 + (c.toNat - 48)) / 10 = valD q by omega, show (valD q * 10 + (c.toNat - 48)) % 10 = c.toNat - 48 by omega, h1, of_dig hc]
theorem dec_len {u k : Nat} (h : u < 10 ^ k) (hk : 1 ≤ k) : (decDigits u).length ≤ k := by
  rw [decDigits_length]
  rcases Nat.lt_or_ge k (nDigits u) with hlt | hge
  · exfalso
    obtain ⟨j, hj⟩ : ∃ j, nDigits u = j + 1 := ⟨nDigits u - 1, by have := nDigits_pos u; omega⟩
    have h1 : ¬ u < 10 ^ j := fun hl => by
      have : ∀ (j u : Nat), 1 ≤ j → u < 10 ^ j → nDigits u ≤ j := by
        intro j
        induction j with
        | zero => intro u h; omega
        | succ j ih =>
          intro u _ hu
          by_cases h10 : u < 10
          · rw [nDigits_small h10]; omega
          · rw [nDigits_big h10]
            rcases Nat.eq_zero_or_pos j with rfl | hj
            · omega
            · have := ih (u / 10) hj (by rw [Nat.pow_succ] at hu; omega)
              omega
      rcases Nat.eq_zero_or_pos j with rfl | hj0
      · omega
      · have := this j u hj0 hl; omega
    exact h1 (Nat.lt_of_lt_of_le h (Nat.pow_le_pow_right (by decide) (by omega)))
  · exact hge

/-- the reference's reading of a number -/
def numR (p : List UInt8) : Int :=
  if p = [] ∨ 13 < p.length ∨ (1 < p.length ∧ p.head? = some 48) ∨ ¬ (∀ c ∈ p, isDig c = true) then -1 else valD p
theorem numR_dec {u : Nat} (h : u < 10000000000000) : numR (decDigits u) = u := by
  unfold numR
  rw [if_neg, val_dec]
  rintro (h1 | h1 | ⟨h1, h2⟩ | h1)
  · exact dec_ne u h1
  · have := dec_len (k := 13) (by omega : u < 10 ^ 13) (by omega); omega
  · rcases Nat.eq_zero_or_pos u with rfl | hu
    · rw [decDigits_one (by decide)] at h1; simp at h1
    · obtain ⟨c, r, hc, hn⟩ := dec_head u hu
      rw [hc] at h2
      exact hn (by simpa using h2)
  · exact h1 (dec_dig u)
theorem dec_numR {p : List UInt8} (h : 0 ≤ numR p) : decDigits (numR p).toNat = p := by
  unfold numR at h ⊢
  split at h
  · omega
  · rename_i hn
    rw [if_neg hn, Int.toNat_natCast]
    have h1 : p ≠ [] := fun e => hn (.inl e)
    have h2 : ∀ c ∈ p, isDig c = true := Decidable.byContradiction fun e => hn (.inr (.inr (.inr e)))
    exact (dec_val p h1 h2 (fun hl e => hn (.inr (.inr (.inl ⟨hl, e⟩))))).1

/-- strconv.Atoi's, as package trace takes it -/
def numP (p : List UInt8) : Int := match atoiAll p with
  | .ok v => v
  | _ => -1
theorem decFrom_dig : ∀ (p : List UInt8) (a : Nat), (∀ c ∈ p, isDig c = true) → decFrom a p = some (p.foldl (fun a c => a * 10 + (c.toNat - 48)) a)
  | [], a, _ => rfl
  | c :: r, a, h => by
    have hc := h c (by simp)
    simp only [isDig, decide_eq_true_eq] at hc
    simp only [decFrom, digitVal, if_pos hc, List.foldl_cons]
    exact decFrom_dig r _ fun x hx => h x (by simp [hx])
theorem numP_dec {u : Nat} (h : u < 10000000000000) : numP (decDigits u) = u := by
  have hl : (decDigits u).length ≤ 13 := dec_len (k := 13) (by omega) (by omega)
  have hd := dec_dig u
  have hv := val_dec u
  unfold numP
  rw [atoiAll_short _ (by omega)]
  cases hp : decDigits u with
  | nil => exact absurd hp (dec_ne u)
  | cons c r =>
    rw [hp] at hd hv
    have hc := hd c (by simp)
    simp only [isDig, decide_eq_true_eq] at hc
    have h45 : (c == 45) = false := by rw [beq_eq_false_iff_ne]; rintro rfl; simp at hc
    have h43 : (c == 43) = false := by rw [beq_eq_false_iff_ne]; rintro rfl; simp at hc
    simp only [atoi, h45, h43, decNat]
    rw [decFrom_dig _ _ hd]
    simp only [valD] at hv
    simp [NumEnd.ofOption, hv]
end Go.Proofs.YtihlokhejopphaaDoor
