/- build.New: a lock of any kind, and its port. -/
import Derived.Test.YteokghghpmppnaaGreatDoorBuBad
import Derived.Handy
namespace Go.Proofs.YteokghghpmppnaaGreatDoor
open Go.RowKit Go.BigFrame
set_option linter.unusedVariables false
set_option maxRecDepth 100000

/-- behind New: a lock, and its port -/
def MkPost (w0 : World) (P : Any → Prop) (e : Ending) (w' : World) : Prop := ∃ a : Any, e = .returned (.tuple #[a.val, .pointer (some ⟨a.q.p, 0, none⟩), .int .i64 0]) ∧ a.At w0 w' ∧ P a
def MxPost (w0 : World) (x : Int) (e : Ending) (w' : World) : Prop := e = .returned (.tuple #[.nilIface, .pointer none, .int .i64 x]) ∧ Wrote Nil w0 w'
theorem bn_good {w0 : World} {n cap : Nat} {sa : Option Addr} {kd v sz pl B G D : Int} {P : Any → Prop} (hn : n ≤ 9223372036854775807)
    (hl : ∀ (q : Pl) w1, PlanAt w1 q n [] [] → (∀ k, q.F k → w0.heap.size ≤ k) → Wrote Nil w0 w1 → Calls Tryz.prog 13 #[.pointer (some ⟨q.p, 0, none⟩), .agg #[.int .i64 kd, .slice sa n cap, .int .u32 v, .int .i64 sz, .int .i64 pl, .int .i64 B, .int .i64 G, .int .i64 D]] w1 (BlPost w0 P q)) :
    Calls Tryz.prog 10 #[.agg #[.int .i64 kd, .slice sa n cap, .int .u32 v, .int .i64 sz, .int .i64 pl, .int .i64 B, .int .i64 G, .int .i64 D]] w0 (MkPost w0 P) := by
  obtain ⟨X, hX⟩ : ∃ X, X = w0.alloc (.cells #[.int .i64 kd, .slice sa n cap, .int .u32 v, .int .i64 sz, .int .i64 pl, .int .i64 B, .int .i64 G, .int .i64 D] 39) := ⟨_, rfl⟩
  have hWX : Wrote Nil w0 X := by rw [hX]; exact (Wrote.refl _ w0).alloc _
  have hblk : X.heap[w0.heap.size]? = some (.cells #[.int .i64 kd, .slice sa n cap, .int .u32 v, .int .i64 sz, .int .i64 pl, .int .i64 B, .int .i64 G, .int .i64 D] 39 (0, 0)) := by rw [hX]; exact Go.Deep.blk_alloc_new _ _
  have HL := Lib.hid (And.intro hl hWX)
  have HX := Lib.hid hX
  clear hl hX
  have x0 : X.cell? ⟨w0.heap.size, 0, none⟩ = some (.int .i64 kd) := (blk_cell hblk 0).trans rfl
  have x1 : X.cell? ⟨w0.heap.size, 1, none⟩ = some (.slice sa n cap) := (blk_cell hblk 1).trans rfl
  have x2 : X.cell? ⟨w0.heap.size, 2, none⟩ = some (.int .u32 v) := (blk_cell hblk 2).trans rfl
  have x3 : X.cell? ⟨w0.heap.size, 3, none⟩ = some (.int .i64 sz) := (blk_cell hblk 3).trans rfl
  have x4 : X.cell? ⟨w0.heap.size, 4, none⟩ = some (.int .i64 pl) := (blk_cell hblk 4).trans rfl
  have x5 : X.cell? ⟨w0.heap.size, 5, none⟩ = some (.int .i64 B) := (blk_cell hblk 5).trans rfl
  have x6 : X.cell? ⟨w0.heap.size, 6, none⟩ = some (.int .i64 G) := (blk_cell hblk 6).trans rfl
  have x7 : X.cell? ⟨w0.heap.size, 7, none⟩ = some (.int .i64 D) := (blk_cell hblk 7).trans rfl
  go_enter Tryz.func10, Tryz.ntmps10
  go_wp2_with (first
    | (go_at_call 12; rw [← HX.out]; (with_reducible refine (plnew_any n X).mono ?_); rintro e w1 ⟨q, rfl, hP, hnew, hW1⟩; have cL := HL.out.1 q w1 hP (fun k hk => Nat.le_trans HL.out.2.size (hnew k hk)) (HL.out.2.nil hW1); have y0 := hW1.old x0; have y1 := hW1.old x1; have y2 := hW1.old x2; have y3 := hW1.old x3; have y4 := hW1.old x4; have y5 := hW1.old x5; have y6 := hW1.old x6; have y7 := hW1.old x7; clear hP hnew hW1)
    | (go_at_call 13; (with_reducible refine cL.mono ?_); intro e w2 hq; unfold BlPost at hq; obtain ⟨lb, ty, rfl, hW2, hP⟩ := hq; have cP := hP w2 (Wrote.refl _ _); clear hP hW2 cL)
    | (go_at_call 14; (with_reducible refine cP.mono ?_); rintro e w3 ⟨a, rfl, hlb, hty, hPa, hA⟩; subst hlb; subst hty; have m0 := a.via_use; have m1 := a.nil_use; have m2 := a.useF_enter; have cU := Any.any_use hA; have HA := Lib.hid hPa; clear hA hPa cP)
    | ((with_reducible refine cU.mono ?_); rintro e w4 ⟨rfl, hL, _⟩; have HZ := Lib.hid hL; clear hL cU))
  go_returns
  exact ⟨_, rfl, HZ.out, HA.out⟩
theorem bn_bad {w0 : World} {n cap : Nat} {sa : Option Addr} {kd v sz pl B G D x : Int} (h0 : x ≠ 0)
    (hl : ∀ (q : Pl) w1, Wrote Nil w0 w1 → Calls Tryz.prog 13 #[.pointer (some ⟨q.p, 0, none⟩), .agg #[.int .i64 kd, .slice sa n cap, .int .u32 v, .int .i64 sz, .int .i64 pl, .int .i64 B, .int .i64 G, .int .i64 D]] w1 (BnPost w1 x)) :
    Calls Tryz.prog 10 #[.agg #[.int .i64 kd, .slice sa n cap, .int .u32 v, .int .i64 sz, .int .i64 pl, .int .i64 B, .int .i64 G, .int .i64 D]] w0 (MxPost w0 x) := by
  have hx : (x != 0) = true := by simp [h0]
  obtain ⟨X, hX⟩ : ∃ X, X = w0.alloc (.cells #[.int .i64 kd, .slice sa n cap, .int .u32 v, .int .i64 sz, .int .i64 pl, .int .i64 B, .int .i64 G, .int .i64 D] 39) := ⟨_, rfl⟩
  have hWX : Wrote Nil w0 X := by rw [hX]; exact (Wrote.refl _ w0).alloc _
  have hblk : X.heap[w0.heap.size]? = some (.cells #[.int .i64 kd, .slice sa n cap, .int .u32 v, .int .i64 sz, .int .i64 pl, .int .i64 B, .int .i64 G, .int .i64 D] 39 (0, 0)) := by rw [hX]; exact Go.Deep.blk_alloc_new _ _
  have HL := Lib.hid (And.intro hl hWX)
  have HX := Lib.hid hX
  clear hl hX
  have x0 : X.cell? ⟨w0.heap.size, 0, none⟩ = some (.int .i64 kd) := (blk_cell hblk 0).trans rfl
  have x1 : X.cell? ⟨w0.heap.size, 1, none⟩ = some (.slice sa n cap) := (blk_cell hblk 1).trans rfl
  have x2 : X.cell? ⟨w0.heap.size, 2, none⟩ = some (.int .u32 v) := (blk_cell hblk 2).trans rfl
  have x3 : X.cell? ⟨w0.heap.size, 3, none⟩ = some (.int .i64 sz) := (blk_cell hblk 3).trans rfl
  have x4 : X.cell? ⟨w0.heap.size, 4, none⟩ = some (.int .i64 pl) := (blk_cell hblk 4).trans rfl
  have x5 : X.cell? ⟨w0.heap.size, 5, none⟩ = some (.int .i64 B) := (blk_cell hblk 5).trans rfl
  have x6 : X.cell? ⟨w0.heap.size, 6, none⟩ = some (.int .i64 G) := (blk_cell hblk 6).trans rfl
  have x7 : X.cell? ⟨w0.heap.size, 7, none⟩ = some (.int .i64 D) := (blk_cell hblk 7).trans rfl
  go_enter Tryz.func10, Tryz.ntmps10
  go_wp2_with (first
    | (go_at_call 12; rw [← HX.out]; (with_reducible refine (plnew_any n X).mono ?_); rintro e w1 ⟨q, rfl, hP, hnew, hW1⟩; have cL := HL.out.1 q w1 (HL.out.2.nil hW1); have y0 := hW1.old x0; have y1 := hW1.old x1; have y2 := hW1.old x2; have y3 := hW1.old x3; have y4 := hW1.old x4; have y5 := hW1.old x5; have y6 := hW1.old x6; have y7 := hW1.old x7; have HW := Lib.hid (HL.out.2.nil hW1); clear hP hnew hW1)
    | (go_at_call 13; (with_reducible refine cL.mono ?_); intro e w2 hq; unfold BnPost at hq; obtain ⟨rfl, hW2⟩ := hq; have HZ := Lib.hid (HW.out.nil hW2); clear hW2 cL))
  go_returns
  exact ⟨rfl, HZ.out⟩

end Go.Proofs.YteokghghpmppnaaGreatDoor
