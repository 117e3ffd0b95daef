/- The contract of cache.New: a new cache is one in which nobody has anything, and nobody missed; numbers that may not be are refused. -/
import Derived.Test.YteokghghpmppnaaGreatDoorCache
import Derived.BigRegion
namespace Go.Proofs.YteokghghpmppnaaGreatDoor
open Go.RowKit
set_option linter.unusedVariables false
set_option maxRecDepth 100000

def NewCachePost (w0 : World) (threads words : Nat) (e : Ending) (w' : World) : Prop :=
  ∃ c bc bm, e = .returned (.tuple #[.pointer (some ⟨c, 0, none⟩), .int .i64 0]) ∧ CacheAt w' c bc bm (List.replicate words 0) (List.replicate threads 0) 0 ∧ w0.heap.size ≤ c ∧ w0.heap.size ≤ bc ∧ w0.heap.size ≤ bm ∧ Wrote Nil w0 w'

theorem made_u64 (n : Nat) : madeCells (Value.int .u64 0).cells (n * 1) = ((List.replicate n (0 : Nat)).map fun (n : Nat) => Value.int .u64 (n : Int)).toArray := by
  simp only [Nat.mul_one, madeCells, Value.cells]
  apply Array.ext
  · simp
  · intro i h1 h2
    simp [Nat.mod_one]
theorem made_i64 (n : Nat) : madeCells (Value.int .i64 0).cells (n * 1) = ((List.replicate n (0 : Nat)).map fun (n : Nat) => Value.int .i64 (n : Int)).toArray := by
  simp only [Nat.mul_one, madeCells, Value.cells]
  apply Array.ext
  · simp
  · intro i h1 h2
    simp [Nat.mod_one]

theorem new_cacheAt {w : World} {c bc bm threads words : Nat} (ht : threads ≤ 64) (hw : words ≤ 4096)
    (ho : w.heap[c]? = some (.cells #[.slice (some ⟨bc, 0, none⟩) words words, .slice (some ⟨bm, 0, none⟩) threads threads] 145 (0, 0)))
    (hc : w.heap[bc]? = some (.cells ((List.replicate words (0 : Nat)).map fun (n : Nat) => Value.int .u64 (n : Int)).toArray 175 (0, 0)))
    (hm : w.heap[bm]? = some (.cells ((List.replicate threads (0 : Nat)).map fun (n : Nat) => Value.int .i64 (n : Int)).toArray 3 (0, 0)))
    (n1 : bc ≠ c) (n2 : bm ≠ c) (n3 : bc ≠ bm) : CacheAt w c bc bm (List.replicate words 0) (List.replicate threads 0) 0 :=
  ⟨by simpa using ho, hc, hm, n1, n2, n3, by simpa using hw, by simpa using ht, fun x hx => by simp at hx; rw [hx.2]; exact Nat.two_pow_pos _, fun x hx => by simp at hx; omega⟩

theorem three_blocks (w : World) (X Y Z : Obj) : ((((w.alloc X).alloc Y).alloc Z).drew).heap[w.heap.size]? = some X ∧ ((((w.alloc X).alloc Y).alloc Z).drew).heap[w.heap.size + 1]? = some Y ∧
    ((((w.alloc X).alloc Y).alloc Z).drew).heap[w.heap.size + 1 + 1]? = some Z ∧ Wrote Nil w (((w.alloc X).alloc Y).alloc Z).drew := by
  have n1 : (w.alloc X).heap.size = w.heap.size + 1 := Go.Deep.nblk_alloc _ _
  have n2 : ((w.alloc X).alloc Y).heap.size = w.heap.size + 1 + 1 := by rw [Go.Deep.nblk_alloc, n1]
  refine ⟨?_, ?_, ?_, ((((Wrote.refl Nil w).alloc _).alloc _).alloc _).drew⟩
  · show (((w.alloc X).alloc Y).alloc Z).heap[w.heap.size]? = _
    rw [Go.Deep.blk_alloc_lt _ _ _ (by omega), Go.Deep.blk_alloc_lt _ _ _ (by omega), Go.Deep.blk_alloc_new]
  · show (((w.alloc X).alloc Y).alloc Z).heap[w.heap.size + 1]? = _
    rw [Go.Deep.blk_alloc_lt _ _ _ (by omega), ← n1, Go.Deep.blk_alloc_new]
  · show (((w.alloc X).alloc Y).alloc Z).heap[w.heap.size + 1 + 1]? = _
    rw [← n2, Go.Deep.blk_alloc_new]

set_option maxHeartbeats 1000000 in
theorem cnew_good {w : World} {threads words : Nat} (h1 : 1 ≤ threads) (ht : threads ≤ 64) (hw : words ≤ 4096) :
    Calls Tryz.prog 39 #[.int .i64 threads, .int .i64 words] w (NewCachePost w threads words) := by
  obtain ⟨i0, hi, hz0, hz1, hz2⟩ := info_parts info_u64
  obtain ⟨i1, gi, gz0, gz1, gz2⟩ := info_parts info_i64
  have hmk : ∀ w : World, (Instr.makeSlice 143 (.int .i64 (words : Int)) (.int .i64 (words : Int))).run Tryz.prog w = .ok (.slice (some ⟨w.heap.size, 0, none⟩) words words) (w.alloc (.cells ((List.replicate words (0 : Nat)).map fun (n : Nat) => Value.int .u64 (n : Int)).toArray 175)) := by
    intro w
    have h := Go.run_make (P := Tryz.prog) w 143 175 i0 _ Tryz.underlying143 hi hz0 .i64 .i64 words words (by omega) (by omega) (by rw [hz2]; omega) (by omega)
    rw [hz1] at h
    simp only [Int.toNat_natCast] at h
    rw [made_u64] at h
    exact h
  have hmk2 : ∀ w : World, (Instr.makeSlice 36 (.int .i64 (threads : Int)) (.int .i64 (threads : Int))).run Tryz.prog w = .ok (.slice (some ⟨w.heap.size, 0, none⟩) threads threads) (w.alloc (.cells ((List.replicate threads (0 : Nat)).map fun (n : Nat) => Value.int .i64 (n : Int)).toArray 3)) := by
    intro w
    have h := Go.run_make (P := Tryz.prog) w 36 3 i1 _ Tryz.underlying36 gi gz0 .i64 .i64 threads threads (by omega) (by omega) (by rw [gz2]; omega) (by omega)
    rw [gz1] at h
    simp only [Int.toNat_natCast] at h
    rw [made_i64] at h
    exact h
  have k1 : ¬ (threads : Int) < 1 := by omega
  have k2 : ¬ (64 : Int) < threads := by omega
  have k3 : ¬ (words : Int) < 0 := by omega
  have k4 : ¬ (4096 : Int) < words := by omega
  generalize hA : ((List.replicate words (0 : Nat)).map fun (n : Nat) => Value.int .u64 (n : Int)).toArray = A at hmk
  generalize hB : ((List.replicate threads (0 : Nat)).map fun (n : Nat) => Value.int .i64 (n : Int)).toArray = B at hmk2
  have HA := Lib.hid (And.intro hA hB)
  clear hA hB
  go_enter Tryz.func39, Tryz.ntmps39
  go_wp2
  go_region
  all_goals
    go_wp2
    go_ret2
    obtain ⟨rfl, rfl⟩ := HA.out
    first
      | (obtain ⟨b0, b1, b2, hW⟩ := three_blocks w (.cells ((List.replicate words (0 : Nat)).map fun (n : Nat) => Value.int .u64 (n : Int)).toArray 175) (.cells ((List.replicate threads (0 : Nat)).map fun (n : Nat) => Value.int .i64 (n : Int)).toArray 3) (.cells #[.slice (some ⟨w.heap.size, 0, none⟩) words words, .slice (some ⟨w.heap.size + 1, 0, none⟩) threads threads] 145)
         exact ⟨_, _, _, rfl, new_cacheAt ht hw b2 b0 b1 (by omega) (by omega) (by omega), by omega, by omega, by omega, hW⟩)
      | (obtain ⟨b0, b1, b2, hW⟩ := three_blocks w (.cells ((List.replicate threads (0 : Nat)).map fun (n : Nat) => Value.int .i64 (n : Int)).toArray 3) (.cells ((List.replicate words (0 : Nat)).map fun (n : Nat) => Value.int .u64 (n : Int)).toArray 175) (.cells #[.slice (some ⟨w.heap.size + 1, 0, none⟩) words words, .slice (some ⟨w.heap.size, 0, none⟩) threads threads] 145)
         exact ⟨_, _, _, rfl, new_cacheAt ht hw b2 b1 b0 (by omega) (by omega) (by omega), by omega, by omega, by omega, hW⟩)

/-- cache.New, told from an earlier world on -/
theorem new_cache_since {w0 w : World} {threads words : Nat} (h0 : Wrote Nil w0 w) (h1 : 1 ≤ threads) (ht : threads ≤ 64) (hw : words ≤ 4096) :
    Calls Tryz.prog 39 #[.int .i64 threads, .int .i64 words] w (NewCachePost w0 threads words) := by
  refine (cnew_good h1 ht hw).mono ?_
  rintro e w' ⟨c, bc, bm, he, hC, q1, q2, q3, hW⟩
  have hs := h0.size
  exact ⟨c, bc, bm, he, hC, by omega, by omega, by omega, h0.nil hW⟩

def okCache (t n : Int) : Bool := decide (1 ≤ t ∧ t ≤ 64 ∧ 0 ≤ n ∧ n ≤ 4096)
theorem cnew_bad {w : World} (t n : Int) (h : ¬(1 ≤ t ∧ t ≤ 64 ∧ 0 ≤ n ∧ n ≤ 4096)) :
    Calls Tryz.prog 39 #[.int .i64 t, .int .i64 n] w fun e w' => e = .returned (.tuple #[.pointer none, .int .i64 1]) ∧ w' = w := by
  by_cases h1 : t < 1
  · go_enter Tryz.func39, Tryz.ntmps39
    go_wp2
    go_ret2
    exact ⟨rfl, rfl⟩
  · by_cases h2 : 64 < t
    · go_enter Tryz.func39, Tryz.ntmps39
      go_wp2
      go_ret2
      exact ⟨rfl, rfl⟩
    · by_cases h3 : n < 0
      · go_enter Tryz.func39, Tryz.ntmps39
        go_wp2
        go_ret2
        exact ⟨rfl, rfl⟩
      · have h4 : 4096 < n := by omega
        go_enter Tryz.func39, Tryz.ntmps39
        go_wp2
        go_ret2
        exact ⟨rfl, rfl⟩
end Go.Proofs.YteokghghpmppnaaGreatDoor
