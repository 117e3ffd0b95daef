/- A step of the reference's lock is a lock's step; and its New, its words. -/
import Derived.Test.YtkmikkjjnbikdaaGreatMcsRef
import Derived.Test.YtkmikkjjnbikdaaGreatCohortAcc
import Derived.WalkLawsBesides
import Derived.Outline
import Derived.Deep.QuietTactic
import Derived.Deep.RegionHeld3
import Derived.Deep.RegionWith
import Derived.BigQuiet
import Derived.BigFrame
import Derived.Handy
import Derived.OpenShut
import Derived.Lib.Walk
import Derived.WalkKit
import Derived.Lib.Hide
import Derived.BigRegion
namespace Go.Proofs.YtkmikkjjnbikdaaGreat.Kf
open Go.RowKit Go.BigFrame
set_option linter.unusedVariables false
set_option maxRecDepth 100000

end Go.Proofs.YtkmikkjjnbikdaaGreat.Kf
namespace Go.Proofs.YtkmikkjjnbikdaaGreat.Kf
open Go.RowKit Go.BigFrame
set_option linter.unusedVariables false
set_option maxRecDepth 100000

end Go.Proofs.YtkmikkjjnbikdaaGreat.Kf
namespace Go.Proofs.YtkmikkjjnbikdaaGreat.Kf
open Go.RowKit Go.BigFrame
set_option linter.unusedVariables false
set_option maxRecDepth 100000

end Go.Proofs.YtkmikkjjnbikdaaGreat.Kf
namespace Go.Proofs.YtkmikkjjnbikdaaGreat.Kf
open Go.RowKit Go.BigFrame
set_option linter.unusedVariables false
set_option maxRecDepth 100000

def NewMlPost (w : World) (n : Nat) (a : Int) (e : Ending) (w' : World) : Prop :=
  ∃ M : Mp, e = .returned (.pointer (some ⟨M.r, 0, none⟩)) ∧ MlRaw w' M (newSeat n false true) (fun _ => false) (fun _ => 0) ∧ M.a = a ∧ M.base = w'.heap.size ∧ (w.heap.size ≤ M.r ∧ ∀ k, MF M k → w.heap.size ≤ k) ∧ Wrote Nil w w'
theorem two_0 (w : World) (A B : Obj) : ((w.alloc A).alloc B).heap[w.heap.size]? = some A := by
  rw [Go.Deep.blk_alloc_lt _ _ _ (by rw [Go.Deep.nblk_alloc]; omega), Go.Deep.blk_alloc_new]
theorem two_1 (w : World) (A B : Obj) : ((w.alloc A).alloc B).heap[w.heap.size + 1]? = some B := by
  rw [← Go.Deep.nblk_alloc w A, Go.Deep.blk_alloc_new]
theorem ml_end {w Wc w2 W : World} {n : Nat} {a : Int} {r pc mn lb : Nat} {hv dv : Value} {A B : Array Value} (hA : rowA n (pcV fun _ => false) = A) (hB : rowA n (miV fun _ => 0) = B) (h0 : Wrote Nil w Wc) (hR : RsAt w2 r hv dv (newSeat n false true)) (hnew : ∀ k, SF r hv dv k → Wc.heap.size ≤ k) (hW : Wrote Nil Wc w2) (h2 : Wrote Nil w2 W)
    (hp : W.heap[pc]? = some (.cells A 3 (0, 0))) (hm : W.heap[mn]? = some (.cells B 62 (0, 0))) (hpp : (w.heap.size ≤ pc ∧ pc < Wc.heap.size) ∨ w2.heap.size ≤ pc) (hmm : (w.heap.size ≤ mn ∧ mn < Wc.heap.size) ∨ w2.heap.size ≤ mn) (hne : pc ≠ mn) (hlb : lb = W.heap.size)
    (Y : World) (hY : Y = W.alloc (.cells #[.pointer (some ⟨r, 0, none⟩), .int .i64 a, .slice (some ⟨pc, 0, none⟩) n n, .slice (some ⟨mn, 0, none⟩) n n] 159)) : NewMlPost w n a (.returned (.pointer (some ⟨lb, 0, none⟩))) Y := by
  subst hlb hY hA hB
  have k : Wrote Nil W (W.alloc (.cells #[.pointer (some ⟨r, 0, none⟩), .int .i64 a, .slice (some ⟨pc, 0, none⟩) n n, .slice (some ⟨mn, 0, none⟩) n n] 159)) := (Wrote.refl _ W).alloc _
  have e1 : (W.alloc (.cells #[.pointer (some ⟨r, 0, none⟩), .int .i64 a, .slice (some ⟨pc, 0, none⟩) n n, .slice (some ⟨mn, 0, none⟩) n n] 159)).heap.size = W.heap.size + 1 := Go.Deep.nblk_alloc _ _
  have s0 := h0.size
  have s1 := hW.size
  have s2 := h2.size
  have lp := blk_lt hp
  have lm := blk_lt hm
  have hsf : ∀ k, SF r hv dv k → Wc.heap.size ≤ k ∧ k < w2.heap.size := fun k hk => ⟨hnew k hk, SrAt.lt hR hk⟩
  refine ⟨⟨W.heap.size, r, hv, dv, pc, mn, a, 0, (W.alloc (.cells #[.pointer (some ⟨r, 0, none⟩), .int .i64 a, .slice (some ⟨pc, 0, none⟩) n n, .slice (some ⟨mn, 0, none⟩) n n] 159)).heap.size⟩, rfl, ⟨Go.Deep.blk_alloc_new W _, hR.after (h2.nil k), (k.block _ lp id).trans hp, (k.block _ lm id).trans hm, ⟨by dsimp only; omega, by dsimp only; omega, hne⟩, fun j hj => ?_, ?_⟩, rfl, rfl, ⟨by dsimp only; omega, fun j hj => ?_⟩, ((h0.nil hW).nil h2).nil k⟩
  · have := hsf j hj
    dsimp only
    omega
  · dsimp only
    exact ⟨by omega, by omega, by omega, fun j hj => by have := hsf j hj; omega⟩
  · rcases hj with rfl | rfl | hj
    · (try dsimp only); omega
    · (try dsimp only); omega
    · have := hsf j hj; omega
set_option maxHeartbeats 2000000 in
theorem ml_new (n : Nat) (n2 : n ≤ 64) (a : Int) (w : World) : Calls Tryz.prog 50 #[.int .i64 (n : Int), .int .i64 a] w (NewMlPost w n a) := by
  obtain ⟨i0, hi, hz0, hz1, hz2⟩ := info_parts info_int
  have hmk : ∀ w : World, (Instr.makeSlice 22 (.int .i64 (n : Int)) (.int .i64 (n : Int))).run Tryz.prog w = .ok (.slice (some ⟨w.heap.size, 0, none⟩) n n) (w.alloc (.cells (rowA n (pcV fun _ => false)) 3)) := by
    intro w
    have h := Go.run_make (P := Tryz.prog) w 22 3 i0 _ Tryz.underlying22 hi hz0 .i64 .i64 n n (by omega) (by omega) (by rw [hz2]; omega) (by omega)
    rw [hz1] at h
    simp only [Int.toNat_natCast] at h
    rw [show madeCells (Value.int .i64 0).cells (n * 1) = rowA n (pcV fun _ => false) from made_row (.int .i64 0) n] at h
    exact h
  obtain ⟨j0, gi, gz0, gz1, gz2⟩ := info_parts (show (Tryz.prog.info? 62).map (fun i => (i.zero, i.size, i.bytes)) = some (some (.int .u32 0), 1, 4) by kernel_rfl)
  have hmm : ∀ w : World, (Instr.makeSlice 54 (.int .i64 (n : Int)) (.int .i64 (n : Int))).run Tryz.prog w = .ok (.slice (some ⟨w.heap.size, 0, none⟩) n n) (w.alloc (.cells (rowA n (miV fun _ => 0)) 62)) := by
    intro w
    have h := Go.run_make (P := Tryz.prog) w 54 62 j0 _ Tryz.underlying54 gi gz0 .i64 .i64 n n (by omega) (by omega) (by rw [gz2]; omega) (by omega)
    rw [gz1] at h
    simp only [Int.toNat_natCast] at h
    rw [show madeCells (Value.int .u32 0).cells (n * 1) = rowA n (miV fun _ => 0) from made_row (.int .u32 0) n] at h
    exact h
  generalize hA : rowA n (pcV fun _ => false) = A at hmk
  generalize hB : rowA n (miV fun _ => 0) = B at hmm
  have cS := fun W => rs_new n false true n2 W
  have HA := Lib.hid (And.intro hA hB)
  clear hA hB
  go_enter Tryz.func50, Tryz.ntmps50
  go_wp2
  go_region_with (go_at_call 32; (with_reducible refine (cS _).mono ?_); intro e w2 hq; unfold RsNewPost at hq; obtain ⟨r, hv, dv, rfl, hR, hnew, hW⟩ := hq; have HR := Lib.hid (And.intro hR (And.intro hnew hW)); clear hR hnew hW cS)
  all_goals
    go_wp2
    go_ret
    first
      | exact ml_end HA.out.1 HA.out.2 ((Wrote.refl Nil w).drew) HR.out.1 HR.out.2.1 HR.out.2.2 (((Wrote.refl Nil w2).alloc _).alloc _) (two_0 w2 _ _) (two_1 w2 _ _) (by exact .inr (Nat.le_refl _)) (by exact .inr (Nat.le_succ _)) (by omega) (by simp only [Go.Deep.nblk_alloc]) _ rfl
      | exact ml_end HA.out.1 HA.out.2 ((Wrote.refl Nil w).drew) HR.out.1 HR.out.2.1 HR.out.2.2 (((Wrote.refl Nil w2).alloc _).alloc _) (two_1 w2 _ _) (two_0 w2 _ _) (by exact .inr (Nat.le_succ _)) (by exact .inr (Nat.le_refl _)) (by omega) (by simp only [Go.Deep.nblk_alloc]) _ rfl
      | exact ml_end HA.out.1 HA.out.2 (((Wrote.refl Nil w).alloc _).drew) HR.out.1 HR.out.2.1 HR.out.2.2 ((Wrote.refl Nil w2).alloc _) ((Go.Deep.blk_alloc_lt w2 _ _ (Nat.lt_of_lt_of_le ((by have e : (w.alloc (.cells A 3)).heap.size = w.heap.size + 1 := Go.Deep.nblk_alloc _ _; show w.heap.size < (w.alloc (.cells A 3)).heap.size; omega)) HR.out.2.2.size)).trans ((HR.out.2.2.block w.heap.size ((by have e : (w.alloc (.cells A 3)).heap.size = w.heap.size + 1 := Go.Deep.nblk_alloc _ _; show w.heap.size < (w.alloc (.cells A 3)).heap.size; omega)) id).trans (Go.Deep.blk_alloc_new w (.cells A 3)))) (Go.Deep.blk_alloc_new w2 _) (by exact .inl ⟨Nat.le_refl _, (by have e : (w.alloc (.cells A 3)).heap.size = w.heap.size + 1 := Go.Deep.nblk_alloc _ _; show w.heap.size < (w.alloc (.cells A 3)).heap.size; omega)⟩) (by exact .inr (Nat.le_refl _)) (by have q1 : w.heap.size < (w.alloc (.cells A 3)).heap.size := (by have e : (w.alloc (.cells A 3)).heap.size = w.heap.size + 1 := Go.Deep.nblk_alloc _ _; show w.heap.size < (w.alloc (.cells A 3)).heap.size; omega); have q2 := HR.out.2.2.size; have q3 : (w.alloc (.cells A 3)).heap.size ≤ w2.heap.size := q2; omega) (by simp only [Go.Deep.nblk_alloc]) _ rfl
      | exact ml_end HA.out.1 HA.out.2 (((Wrote.refl Nil w).drew).alloc _) HR.out.1 HR.out.2.1 HR.out.2.2 ((Wrote.refl Nil w2).alloc _) ((Go.Deep.blk_alloc_lt w2 _ _ (Nat.lt_of_lt_of_le ((by have e : (w.alloc (.cells A 3)).heap.size = w.heap.size + 1 := Go.Deep.nblk_alloc _ _; show w.heap.size < (w.alloc (.cells A 3)).heap.size; omega)) HR.out.2.2.size)).trans ((HR.out.2.2.block w.heap.size ((by have e : (w.alloc (.cells A 3)).heap.size = w.heap.size + 1 := Go.Deep.nblk_alloc _ _; show w.heap.size < (w.alloc (.cells A 3)).heap.size; omega)) id).trans (Go.Deep.blk_alloc_new w (.cells A 3)))) (Go.Deep.blk_alloc_new w2 _) (by exact .inl ⟨Nat.le_refl _, (by have e : (w.alloc (.cells A 3)).heap.size = w.heap.size + 1 := Go.Deep.nblk_alloc _ _; show w.heap.size < (w.alloc (.cells A 3)).heap.size; omega)⟩) (by exact .inr (Nat.le_refl _)) (by have q1 : w.heap.size < (w.alloc (.cells A 3)).heap.size := (by have e : (w.alloc (.cells A 3)).heap.size = w.heap.size + 1 := Go.Deep.nblk_alloc _ _; show w.heap.size < (w.alloc (.cells A 3)).heap.size; omega); have q2 := HR.out.2.2.size; have q3 : (w.alloc (.cells A 3)).heap.size ≤ w2.heap.size := q2; omega) (by simp only [Go.Deep.nblk_alloc]) _ rfl
      | exact ml_end HA.out.1 HA.out.2 (((Wrote.refl Nil w).alloc _).drew) HR.out.1 HR.out.2.1 HR.out.2.2 ((Wrote.refl Nil w2).alloc _) (Go.Deep.blk_alloc_new w2 _) ((Go.Deep.blk_alloc_lt w2 _ _ (Nat.lt_of_lt_of_le ((by have e : (w.alloc (.cells B 62)).heap.size = w.heap.size + 1 := Go.Deep.nblk_alloc _ _; show w.heap.size < (w.alloc (.cells B 62)).heap.size; omega)) HR.out.2.2.size)).trans ((HR.out.2.2.block w.heap.size ((by have e : (w.alloc (.cells B 62)).heap.size = w.heap.size + 1 := Go.Deep.nblk_alloc _ _; show w.heap.size < (w.alloc (.cells B 62)).heap.size; omega)) id).trans (Go.Deep.blk_alloc_new w (.cells B 62)))) (by exact .inr (Nat.le_refl _)) (by exact .inl ⟨Nat.le_refl _, (by have e : (w.alloc (.cells B 62)).heap.size = w.heap.size + 1 := Go.Deep.nblk_alloc _ _; show w.heap.size < (w.alloc (.cells B 62)).heap.size; omega)⟩) (by have q1 : w.heap.size < (w.alloc (.cells B 62)).heap.size := (by have e : (w.alloc (.cells B 62)).heap.size = w.heap.size + 1 := Go.Deep.nblk_alloc _ _; show w.heap.size < (w.alloc (.cells B 62)).heap.size; omega); have q2 := HR.out.2.2.size; have q3 : (w.alloc (.cells B 62)).heap.size ≤ w2.heap.size := q2; omega) (by simp only [Go.Deep.nblk_alloc]) _ rfl
      | exact ml_end HA.out.1 HA.out.2 (((Wrote.refl Nil w).drew).alloc _) HR.out.1 HR.out.2.1 HR.out.2.2 ((Wrote.refl Nil w2).alloc _) (Go.Deep.blk_alloc_new w2 _) ((Go.Deep.blk_alloc_lt w2 _ _ (Nat.lt_of_lt_of_le ((by have e : (w.alloc (.cells B 62)).heap.size = w.heap.size + 1 := Go.Deep.nblk_alloc _ _; show w.heap.size < (w.alloc (.cells B 62)).heap.size; omega)) HR.out.2.2.size)).trans ((HR.out.2.2.block w.heap.size ((by have e : (w.alloc (.cells B 62)).heap.size = w.heap.size + 1 := Go.Deep.nblk_alloc _ _; show w.heap.size < (w.alloc (.cells B 62)).heap.size; omega)) id).trans (Go.Deep.blk_alloc_new w (.cells B 62)))) (by exact .inr (Nat.le_refl _)) (by exact .inl ⟨Nat.le_refl _, (by have e : (w.alloc (.cells B 62)).heap.size = w.heap.size + 1 := Go.Deep.nblk_alloc _ _; show w.heap.size < (w.alloc (.cells B 62)).heap.size; omega)⟩) (by have q1 : w.heap.size < (w.alloc (.cells B 62)).heap.size := (by have e : (w.alloc (.cells B 62)).heap.size = w.heap.size + 1 := Go.Deep.nblk_alloc _ _; show w.heap.size < (w.alloc (.cells B 62)).heap.size; omega); have q2 := HR.out.2.2.size; have q3 : (w.alloc (.cells B 62)).heap.size ≤ w2.heap.size := q2; omega) (by simp only [Go.Deep.nblk_alloc]) _ rfl
      | exact ml_end HA.out.1 HA.out.2 ((((Wrote.refl Nil w).alloc _).alloc _).drew) HR.out.1 HR.out.2.1 HR.out.2.2 (Wrote.refl Nil w2) ((HR.out.2.2.block w.heap.size ((by have e : ((w.alloc (.cells A 3)).alloc (.cells B 62)).heap.size = w.heap.size + 1 + 1 := (by rw [Go.Deep.nblk_alloc, Go.Deep.nblk_alloc]); show w.heap.size < ((w.alloc (.cells A 3)).alloc (.cells B 62)).heap.size; omega)) id).trans (two_0 w (.cells A 3) (.cells B 62))) ((HR.out.2.2.block (w.heap.size + 1) ((by have e : ((w.alloc (.cells A 3)).alloc (.cells B 62)).heap.size = w.heap.size + 1 + 1 := (by rw [Go.Deep.nblk_alloc, Go.Deep.nblk_alloc]); show w.heap.size + 1 < ((w.alloc (.cells A 3)).alloc (.cells B 62)).heap.size; omega)) id).trans (two_1 w (.cells A 3) (.cells B 62))) (by exact .inl ⟨Nat.le_refl _, (by have e : ((w.alloc (.cells A 3)).alloc (.cells B 62)).heap.size = w.heap.size + 1 + 1 := (by rw [Go.Deep.nblk_alloc, Go.Deep.nblk_alloc]); show w.heap.size < ((w.alloc (.cells A 3)).alloc (.cells B 62)).heap.size; omega)⟩) (by exact .inl ⟨Nat.le_succ _, (by have e : ((w.alloc (.cells A 3)).alloc (.cells B 62)).heap.size = w.heap.size + 1 + 1 := (by rw [Go.Deep.nblk_alloc, Go.Deep.nblk_alloc]); show w.heap.size + 1 < ((w.alloc (.cells A 3)).alloc (.cells B 62)).heap.size; omega)⟩) (by omega) rfl _ rfl
      | exact ml_end HA.out.1 HA.out.2 ((((Wrote.refl Nil w).drew).alloc _).alloc _) HR.out.1 HR.out.2.1 HR.out.2.2 (Wrote.refl Nil w2) ((HR.out.2.2.block w.heap.size ((by have e : ((w.alloc (.cells A 3)).alloc (.cells B 62)).heap.size = w.heap.size + 1 + 1 := (by rw [Go.Deep.nblk_alloc, Go.Deep.nblk_alloc]); show w.heap.size < ((w.alloc (.cells A 3)).alloc (.cells B 62)).heap.size; omega)) id).trans (two_0 w (.cells A 3) (.cells B 62))) ((HR.out.2.2.block (w.heap.size + 1) ((by have e : ((w.alloc (.cells A 3)).alloc (.cells B 62)).heap.size = w.heap.size + 1 + 1 := (by rw [Go.Deep.nblk_alloc, Go.Deep.nblk_alloc]); show w.heap.size + 1 < ((w.alloc (.cells A 3)).alloc (.cells B 62)).heap.size; omega)) id).trans (two_1 w (.cells A 3) (.cells B 62))) (by exact .inl ⟨Nat.le_refl _, (by have e : ((w.alloc (.cells A 3)).alloc (.cells B 62)).heap.size = w.heap.size + 1 + 1 := (by rw [Go.Deep.nblk_alloc, Go.Deep.nblk_alloc]); show w.heap.size < ((w.alloc (.cells A 3)).alloc (.cells B 62)).heap.size; omega)⟩) (by exact .inl ⟨Nat.le_succ _, (by have e : ((w.alloc (.cells A 3)).alloc (.cells B 62)).heap.size = w.heap.size + 1 + 1 := (by rw [Go.Deep.nblk_alloc, Go.Deep.nblk_alloc]); show w.heap.size + 1 < ((w.alloc (.cells A 3)).alloc (.cells B 62)).heap.size; omega)⟩) (by omega) rfl _ rfl
      | exact ml_end HA.out.1 HA.out.2 ((((Wrote.refl Nil w).alloc _).alloc _).drew) HR.out.1 HR.out.2.1 HR.out.2.2 (Wrote.refl Nil w2) ((HR.out.2.2.block (w.heap.size + 1) ((by have e : ((w.alloc (.cells B 62)).alloc (.cells A 3)).heap.size = w.heap.size + 1 + 1 := (by rw [Go.Deep.nblk_alloc, Go.Deep.nblk_alloc]); show w.heap.size + 1 < ((w.alloc (.cells B 62)).alloc (.cells A 3)).heap.size; omega)) id).trans (two_1 w (.cells B 62) (.cells A 3))) ((HR.out.2.2.block w.heap.size ((by have e : ((w.alloc (.cells B 62)).alloc (.cells A 3)).heap.size = w.heap.size + 1 + 1 := (by rw [Go.Deep.nblk_alloc, Go.Deep.nblk_alloc]); show w.heap.size < ((w.alloc (.cells B 62)).alloc (.cells A 3)).heap.size; omega)) id).trans (two_0 w (.cells B 62) (.cells A 3))) (by exact .inl ⟨Nat.le_succ _, (by have e : ((w.alloc (.cells B 62)).alloc (.cells A 3)).heap.size = w.heap.size + 1 + 1 := (by rw [Go.Deep.nblk_alloc, Go.Deep.nblk_alloc]); show w.heap.size + 1 < ((w.alloc (.cells B 62)).alloc (.cells A 3)).heap.size; omega)⟩) (by exact .inl ⟨Nat.le_refl _, (by have e : ((w.alloc (.cells B 62)).alloc (.cells A 3)).heap.size = w.heap.size + 1 + 1 := (by rw [Go.Deep.nblk_alloc, Go.Deep.nblk_alloc]); show w.heap.size < ((w.alloc (.cells B 62)).alloc (.cells A 3)).heap.size; omega)⟩) (by omega) rfl _ rfl
      | exact ml_end HA.out.1 HA.out.2 ((((Wrote.refl Nil w).drew).alloc _).alloc _) HR.out.1 HR.out.2.1 HR.out.2.2 (Wrote.refl Nil w2) ((HR.out.2.2.block (w.heap.size + 1) ((by have e : ((w.alloc (.cells B 62)).alloc (.cells A 3)).heap.size = w.heap.size + 1 + 1 := (by rw [Go.Deep.nblk_alloc, Go.Deep.nblk_alloc]); show w.heap.size + 1 < ((w.alloc (.cells B 62)).alloc (.cells A 3)).heap.size; omega)) id).trans (two_1 w (.cells B 62) (.cells A 3))) ((HR.out.2.2.block w.heap.size ((by have e : ((w.alloc (.cells B 62)).alloc (.cells A 3)).heap.size = w.heap.size + 1 + 1 := (by rw [Go.Deep.nblk_alloc, Go.Deep.nblk_alloc]); show w.heap.size < ((w.alloc (.cells B 62)).alloc (.cells A 3)).heap.size; omega)) id).trans (two_0 w (.cells B 62) (.cells A 3))) (by exact .inl ⟨Nat.le_succ _, (by have e : ((w.alloc (.cells B 62)).alloc (.cells A 3)).heap.size = w.heap.size + 1 + 1 := (by rw [Go.Deep.nblk_alloc, Go.Deep.nblk_alloc]); show w.heap.size + 1 < ((w.alloc (.cells B 62)).alloc (.cells A 3)).heap.size; omega)⟩) (by exact .inl ⟨Nat.le_refl _, (by have e : ((w.alloc (.cells B 62)).alloc (.cells A 3)).heap.size = w.heap.size + 1 + 1 := (by rw [Go.Deep.nblk_alloc, Go.Deep.nblk_alloc]); show w.heap.size < ((w.alloc (.cells B 62)).alloc (.cells A 3)).heap.size; omega)⟩) (by omega) rfl _ rfl
end Go.Proofs.YtkmikkjjnbikdaaGreat.Kf
