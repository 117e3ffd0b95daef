/- The contracts of package pack's functions: what each returns, as quotients and remainders; the world is left as it is. -/
import Derived.Test.YteacdcdjdbobnaaGreatRows
import Derived.Test.YteacdcdjdbobnaaGreatBits
import Derived.WalkKit
import Derived.WalkLawsBesides
import Derived.Outline
import Derived.Deep.QuietTactic
import Derived.BigQuiet
import Derived.Lib.Hide
import Derived.Handy
import Derived.OpenShut
namespace Go.Proofs.YteacdcdjdbobnaaGreat
open Go.RowKit
set_option linter.unusedVariables false

def waitsB (w : Int) : Bool := decide (w / 2 % 2 = 1)
def splicedB (w : Int) : Bool := decide (w % 2 = 1)
def oneI (b : Bool) : Int := if b then 1 else 0
def heldI (c : Int) : Int := if c < 0 then 0 else if 1073741823 < c then 1073741823 else c
def sizeB (s : Int) : Bool := decide (s = 1 ∨ s = 2 ∨ s = 4 ∨ s = 8 ∨ s = 16 ∨ s = 32 ∨ s = 64)
def freeI (a : Int) : Int := a / 4 * 4 + a % 2
def spliceI (a : Int) : Int := a / 2 * 2 + 1
def wordI (c : Int) (a b : Bool) : Int := heldI c * 4 + oneI a * 2 + oneI b

theorem held_lo (c : Int) : 0 ≤ heldI c := by unfold heldI; split <;> (try split) <;> omega
theorem held_hi (c : Int) : heldI c ≤ 1073741823 := by unfold heldI; split <;> (try split) <;> omega

theorem ret_int {k : IntKind} {a b : Int} (h : a = b) : Ending.returned (.int k a) = .returned (.int k b) := by rw [h]
theorem ret_bool {a b : Bool} (h : a = b) : Ending.returned (.bool a) = .returned (.bool b) := by rw [h]

theorem cluster_any (a : Int) (h0 : 0 ≤ a) (h1 : a < 4294967296) (w : World) :
    Calls Tryz.prog 71 #[.int .u32 a] w fun e w' => e = .returned (.int .i64 (a / 4)) ∧ w = w' := by
  go_enter Tryz.func71, Tryz.ntmps71
  go_wp2
  go_ret
  exact ⟨rfl, rfl⟩
theorem waits_any (a : Int) (h0 : 0 ≤ a) (h1 : a < 4294967296) (w : World) :
    Calls Tryz.prog 54 #[.int .u32 a] w fun e w' => e = .returned (.bool (waitsB a)) ∧ w = w' := by
  go_enter Tryz.func54, Tryz.ntmps54
  go_wp2
  go_ret
  exact ⟨ret_bool (by rw [Bw.and2 a h0 h1, waitsB, Bool.eq_iff_iff]; simp; omega), rfl⟩
theorem spliced_any (a : Int) (h0 : 0 ≤ a) (h1 : a < 4294967296) (w : World) :
    Calls Tryz.prog 72 #[.int .u32 a] w fun e w' => e = .returned (.bool (splicedB a)) ∧ w = w' := by
  go_enter Tryz.func72, Tryz.ntmps72
  go_wp2
  go_ret
  exact ⟨ret_bool (by rw [Bw.and1 a h0 h1, splicedB, Bool.eq_iff_iff]; simp; omega), rfl⟩
theorem free_any (a : Int) (h0 : 0 ≤ a) (h1 : a < 4294967296) (w : World) :
    Calls Tryz.prog 58 #[.int .u32 a] w fun e w' => e = .returned (.int .u32 (freeI a)) ∧ w = w' := by
  go_enter Tryz.func58, Tryz.ntmps58
  go_wp2
  go_ret
  exact ⟨ret_int (by unfold freeI; exact Bw.andn2 a h0 h1), rfl⟩
theorem splice_any (a : Int) (h0 : 0 ≤ a) (h1 : a < 4294967296) (w : World) :
    Calls Tryz.prog 74 #[.int .u32 a] w fun e w' => e = .returned (.int .u32 (spliceI a)) ∧ w = w' := by
  go_enter Tryz.func74, Tryz.ntmps74
  go_wp2
  go_ret
  exact ⟨ret_int (by unfold spliceI; exact Bw.or1 a h0 h1), rfl⟩
theorem pack_any (c : Int) (a b : Bool) (w : World) :
    Calls Tryz.prog 48 #[.int .i64 c, .bool a, .bool b] w fun e w' => e = .returned (.int .u32 (wordI c a b)) ∧ w = w' := by
  have k0 : c < 0 ∨ 1073741823 < c ∨ (0 ≤ c ∧ c ≤ 1073741823) := by omega
  rcases k0 with k | k | ⟨k, k'⟩ <;> cases a <;> cases b
  all_goals
    go_enter Tryz.func48, Tryz.ntmps48
    go_wp2
    all_goals go_ret
    all_goals
      refine ⟨ret_int ?_, rfl⟩
      unfold wordI heldI oneI
      simp (disch := omega) [Bw.or2, Bw.or1, if_pos, if_neg]
      try omega
theorem size_all : ∀ n : Nat, n < 65 → ((bits .and .i64 (n : Int) ((n : Int) - 1) == 0) || n == 0) = (sizeB (n : Int) || n == 0) := by decide
theorem parts_any (a : Int) (h0 : 0 ≤ a) (h1 : a < 4294967296) (w : World) :
    Calls Tryz.prog 114 #[.int .u32 a] w fun e w' => e = .returned (.tuple #[.int .i64 (a / 4), .int .i64 (a / 2 % 2), .int .i64 (a % 2)]) ∧ w = w' := by
  go_enter Tryz.func114, Tryz.ntmps114
  go_wp2
  go_ret3
  exact ⟨rfl, rfl⟩
/-- the reference's word, for truths given as numbers -/
def refI (c a b : Int) : Int := heldI c * 4 + a * 2 + b
theorem word_any (c a b : Int) (h0 : 0 ≤ a) (h1 : a ≤ 1) (h2 : 0 ≤ b) (h3 : b ≤ 1) (w : World) :
    Calls Tryz.prog 26 #[.int .i64 c, .int .i64 a, .int .i64 b] w fun e w' => e = .returned (.int .u32 (refI c a b)) ∧ w = w' := by
  have k0 : c < 0 ∨ 1073741823 < c ∨ (0 ≤ c ∧ c ≤ 1073741823) := by omega
  rcases k0 with k | k | ⟨k, k'⟩
  · have H : Hid (heldI c = 0) := Lib.hid (if_pos k)
    go_enter Tryz.func26, Tryz.ntmps26
    go_wp2
    go_ret
    exact ⟨ret_int (by unfold refI; rw [H.out]; omega), rfl⟩
  · have H : Hid (heldI c = 1073741823) := Lib.hid (by unfold heldI; rw [if_neg (by omega), if_pos k])
    go_enter Tryz.func26, Tryz.ntmps26
    go_wp2
    go_ret
    exact ⟨ret_int (by unfold refI; rw [H.out]; omega), rfl⟩
  · have H : Hid (heldI c = c) := Lib.hid (by unfold heldI; rw [if_neg (by omega), if_neg (by omega)])
    go_enter Tryz.func26, Tryz.ntmps26
    go_wp2
    go_ret
    exact ⟨ret_int (by unfold refI; rw [H.out]), rfl⟩
theorem one_lo (b : Bool) : 0 ≤ oneI b := by cases b <;> decide
theorem one_hi (b : Bool) : oneI b ≤ 1 := by cases b <;> decide
theorem word_lo (c : Int) (a b : Bool) : 0 ≤ wordI c a b := by
  have := held_lo c; have := one_lo a; have := one_lo b; unfold wordI; omega
theorem word_hi (c : Int) (a b : Bool) : wordI c a b < 4294967296 := by
  have := held_hi c; have := one_hi a; have := one_hi b; unfold wordI; omega
theorem one_waits (a : Int) : oneI (waitsB a) = a / 2 % 2 := by
  unfold oneI waitsB; split <;> rename_i h <;> simp at h <;> omega
theorem one_spliced (a : Int) : oneI (splicedB a) = a % 2 := by
  unfold oneI splicedB; split <;> rename_i h <;> simp at h <;> omega
theorem held_in (c : Int) (h0 : 0 ≤ c) (h1 : c ≤ 1073741823) : heldI c = c := by unfold heldI; rw [if_neg (by omega), if_neg (by omega)]
theorem word_back (a : Int) (h0 : 0 ≤ a) (h1 : a < 4294967296) : wordI (a / 4) (waitsB a) (splicedB a) = a := by
  unfold wordI; rw [held_in _ (by omega) (by omega), one_waits, one_spliced]; omega
theorem word_cluster (c : Int) (a b : Bool) : wordI c a b / 4 = heldI c := by
  have := one_lo a; have := one_lo b; have := one_hi a; have := one_hi b; unfold wordI; omega
theorem word_waits (c : Int) (a b : Bool) : waitsB (wordI c a b) = a := by
  have := one_lo b; have := one_hi b
  unfold waitsB wordI; cases a <;> simp [oneI] at * <;> omega
theorem word_spliced (c : Int) (a b : Bool) : splicedB (wordI c a b) = b := by
  unfold splicedB wordI; cases b <;> simp [oneI] at * <;> omega
theorem u32_bd {n : Int} (h : (Lit.int .u32 n).wf = true) : 0 ≤ n ∧ n < 4294967296 := by
  have := bounds_u32 h; omega

theorem free_lo (a : Int) (h0 : 0 ≤ a) : 0 ≤ freeI a := by unfold freeI; omega
theorem free_hi (a : Int) (h1 : a < 4294967296) : freeI a < 4294967296 := by unfold freeI; omega
theorem splice_lo (a : Int) (h0 : 0 ≤ a) : 0 ≤ spliceI a := by unfold spliceI; omega
theorem splice_hi (a : Int) (h1 : a < 4294967296) : spliceI a < 4294967296 := by unfold spliceI; omega
theorem free_cluster (a : Int) : freeI a / 4 = a / 4 := by unfold freeI; omega
theorem splice_cluster (a : Int) : spliceI a / 4 = a / 4 := by unfold spliceI; omega
theorem free_free (a : Int) : freeI (freeI a) = freeI a := by unfold freeI; omega
theorem splice_splice (a : Int) : spliceI (spliceI a) = spliceI a := by unfold spliceI; omega
theorem free_splice (a : Int) : freeI (spliceI a) = spliceI (freeI a) := by unfold spliceI freeI; omega
theorem free_waits (a : Int) : waitsB (freeI a) = false := by unfold waitsB freeI; simp; omega
theorem splice_spliced (a : Int) : splicedB (spliceI a) = true := by unfold splicedB spliceI; simp
theorem free_ref (a : Int) (h0 : 0 ≤ a) (h1 : a < 4294967296) : freeI a = refI (a / 4) 0 (a % 2) := by unfold freeI refI; rw [held_in _ (by omega) (by omega)]; omega
theorem splice_ref (a : Int) (h0 : 0 ≤ a) (h1 : a < 4294967296) : spliceI a = refI (a / 4) (a / 2 % 2) 1 := by unfold spliceI refI; rw [held_in _ (by omega) (by omega)]; omega
theorem ref_word (c : Int) (a b : Bool) : refI c (oneI a) (oneI b) = wordI c a b := rfl
end Go.Proofs.YteacdcdjdbobnaaGreat
