/- Plain facts on the bits of a word of 32 bits: 'and 1', 'and 2', 'or 1', 'or 2', 'and not 2', as quotients and remainders. -/
import Derived.Laws.BitsAllLaws
namespace Go.Proofs.YteacdcdjdbobnaaGreat.Bw

theorem nat_and1 (x : Nat) : x &&& 1 = x % 2 := Nat.and_one_is_mod x
theorem split (x : Nat) (i : Nat) : x = (x / 2 ^ i) <<< i ||| x % 2 ^ i := by
  rw [← Nat.shiftLeft_add_eq_or_of_lt (Nat.mod_lt _ (Nat.two_pow_pos i)), Nat.shiftLeft_eq]
  have := Nat.div_add_mod x (2 ^ i)
  rw [Nat.mul_comm]; exact this.symm
theorem nat_and2 (x : Nat) : x &&& 2 = x / 2 % 2 * 2 := by
  have hs := split x 2
  have e : x % 2 ^ 2 &&& 2 = x / 2 % 2 * 2 := by
    have : x % 2 ^ 2 = 0 ∨ x % 2 ^ 2 = 1 ∨ x % 2 ^ 2 = 2 ∨ x % 2 ^ 2 = 3 := by omega
    have e2 : x / 2 % 2 = x % 2 ^ 2 / 2 := by omega
    rw [e2]
    rcases this with h | h | h | h <;> rw [h] <;> decide
  have e3 : (x / 2 ^ 2) <<< 2 &&& 2 = 0 := by
    have h2 : (x / 2 ^ 2) <<< 2 = ((x / 2 ^ 2) <<< 1) <<< 1 := by simp only [Nat.shiftLeft_eq]; omega
    rw [h2, show (2 : Nat) = 1 <<< 1 from rfl, ← Nat.shiftLeft_and_distrib, Nat.and_one_is_mod]
    simp only [Nat.shiftLeft_eq]; omega
  conv => lhs; rw [hs]
  rw [Nat.and_or_distrib_right, e3, e, Nat.zero_or]
theorem nat_or1 (x : Nat) : x ||| 1 = x / 2 * 2 + 1 := by
  have hs := split x 1
  have e : x % 2 ^ 1 ||| 1 = 1 := by
    have : x % 2 ^ 1 = 0 ∨ x % 2 ^ 1 = 1 := by omega
    rcases this with h | h <;> rw [h] <;> rfl
  have : x ||| 1 = (x / 2 ^ 1) <<< 1 ||| 1 := by
    conv => lhs; rw [hs]
    rw [Nat.or_assoc, e]
  rw [this, ← Nat.shiftLeft_add_eq_or_of_lt (by decide), Nat.shiftLeft_eq]
theorem nat_or2 (x : Nat) : x ||| 2 = x / 4 * 4 + 2 + x % 2 := by
  have hs := split x 2
  have e : x % 2 ^ 2 ||| 2 = 2 + x % 2 := by
    have : x % 2 ^ 2 = 0 ∨ x % 2 ^ 2 = 1 ∨ x % 2 ^ 2 = 2 ∨ x % 2 ^ 2 = 3 := by omega
    rcases this with h | h | h | h <;> rw [h] <;> have : x % 2 = x % 2 ^ 2 % 2 := by omega
    all_goals rw [this, h] <;> rfl
  have : x ||| 2 = (x / 2 ^ 2) <<< 2 ||| (2 + x % 2) := by rw [← e, ← Nat.or_assoc, ← hs]
  rw [this, ← Nat.shiftLeft_add_eq_or_of_lt (by omega), Nat.shiftLeft_eq]
  omega
theorem nat_andn2 (x : Nat) (hx : x < 4294967296) : x &&& 4294967293 = x / 4 * 4 + x % 2 := by
  have hs := split x 2
  have e : x % 2 ^ 2 &&& 4294967293 = x % 2 := by
    have : x % 2 ^ 2 = 0 ∨ x % 2 ^ 2 = 1 ∨ x % 2 ^ 2 = 2 ∨ x % 2 ^ 2 = 3 := by omega
    have e2 : x % 2 = x % 2 ^ 2 % 2 := by omega
    rw [e2]
    rcases this with h | h | h | h <;> rw [h] <;> decide
  have e3 : (x / 2 ^ 2) <<< 2 &&& 4294967293 = (x / 2 ^ 2) <<< 2 := by
    have hM : (4294967293 : Nat) = (1073741823 <<< 2) ||| 1 := by decide
    rw [hM, Nat.and_or_distrib_left, ← Nat.shiftLeft_and_distrib]
    have h1 : x / 2 ^ 2 &&& 1073741823 = x / 2 ^ 2 := by
      have := Nat.and_two_pow_sub_one_eq_mod (x / 2 ^ 2) 30
      simp only [Nat.reducePow, Nat.reduceSub] at this ⊢
      rw [this]; omega
    have h2 : (x / 2 ^ 2) <<< 2 &&& 1 = 0 := by rw [Nat.and_one_is_mod, Nat.shiftLeft_eq]; omega
    rw [h1, h2, Nat.or_zero]
  have : x &&& 4294967293 = (x / 2 ^ 2) <<< 2 ||| x % 2 := by
    rw [← e]
    conv => lhs; rw [hs]
    rw [Nat.and_or_distrib_right, e3]
  rw [this, ← Nat.shiftLeft_add_eq_or_of_lt (by omega), Nat.shiftLeft_eq]

theorem and1 (x : Int) (h0 : 0 ≤ x) (h1 : x < 4294967296) : bits .and .u32 x 1 = x % 2 := by
  rw [u32_and x 1 h0 h1 (by decide) (by decide)]; show ((x.toNat &&& 1 : Nat) : Int) = _; rw [nat_and1]; omega
theorem and2 (x : Int) (h0 : 0 ≤ x) (h1 : x < 4294967296) : bits .and .u32 x 2 = x / 2 % 2 * 2 := by
  rw [u32_and x 2 h0 h1 (by decide) (by decide)]; show ((x.toNat &&& 2 : Nat) : Int) = _; rw [nat_and2]; omega
theorem or1 (x : Int) (h0 : 0 ≤ x) (h1 : x < 4294967296) : bits .or .u32 x 1 = x / 2 * 2 + 1 := by
  rw [u32_or x 1 h0 h1 (by decide) (by decide)]; show ((x.toNat ||| 1 : Nat) : Int) = _; rw [nat_or1]; omega
theorem or2 (x : Int) (h0 : 0 ≤ x) (h1 : x < 4294967296) : bits .or .u32 x 2 = x / 4 * 4 + 2 + x % 2 := by
  rw [u32_or x 2 h0 h1 (by decide) (by decide)]; show ((x.toNat ||| 2 : Nat) : Int) = _; rw [nat_or2]; omega
theorem andn2 (x : Int) (h0 : 0 ≤ x) (h1 : x < 4294967296) : bits .andNot .u32 x 2 = x / 4 * 4 + x % 2 := by
  rw [u32_andNot x 2 h0 h1 (by decide) (by decide)]; show ((x.toNat &&& (4294967295 - 2) : Nat) : Int) = _
  rw [show 4294967295 - 2 = 4294967293 from rfl, nat_andn2 _ (by omega)]; omega
end Go.Proofs.YteacdcdjdbobnaaGreat.Bw
