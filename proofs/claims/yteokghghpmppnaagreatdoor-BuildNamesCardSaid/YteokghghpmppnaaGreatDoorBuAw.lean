/- The law's example. -/
import Derived.Test.YteokghghpmppnaaGreatDoorBuNew
namespace Go.Proofs.YteokghghpmppnaaGreatDoor
open Go.RowKit Go.BigFrame
set_option linter.unusedVariables false
set_option maxRecDepth 100000

theorem row_1z (w : World) : RowAt .i64 (w.alloc (.cells #[.int .i64 0] 3)) (some ⟨w.heap.size, 0, none⟩) 1 [0] := by
  refine ⟨rfl, fun e => (by cases e), fun b hb j hj => ?_⟩
  have e : j = 0 := by omega
  subst e
  cases hb
  exact (blk_cell (Go.Deep.blk_alloc_new w (.cells #[.int .i64 0] 3)) 0).trans rfl
theorem row_0z (w : World) : RowAt .i64 w none 0 [] := ⟨rfl, fun _ => rfl, fun b hb => by cases hb⟩
theorem aw_1 (w : World) : Calls Tryz.prog 10 #[.agg #[.int .i64 3, .slice none 0 0, .int .u32 0, .int .i64 0, .int .i64 0, .int .i64 0, .int .i64 0, .int .i64 0]] w (MxPost w 1) :=
  bn_bad (by decide) fun q w1 k => lx_cl (row_0z w1) (by decide) (.inr (.inl (by decide)))
theorem aw_2 (w : World) (s : Option Addr) : Calls Tryz.prog 10 #[.agg #[.int .i64 8, .slice s 1 1, .int .u32 0, .int .i64 0, .int .i64 0, .int .i64 0, .int .i64 0, .int .i64 0]] w (MxPost w 7) :=
  bn_bad (by decide) fun q w1 k => lx_no (.inr (by decide)) _
theorem aw_3 (w : World) : Calls Tryz.prog 10 #[.agg #[.int .i64 3, .slice (some ⟨w.heap.size, 0, none⟩) 1 1, .int .u32 0, .int .i64 0, .int .i64 0, .int .i64 0, .int .i64 0, .int .i64 0]] (w.alloc (.cells #[.int .i64 0] 3)) (MkPost (w.alloc (.cells #[.int .i64 0] 3)) fun a => a.kd = 3 ∧ NewA 1 [0] 0 0 0 0 0 0 a) :=
  bn_good (by decide) fun q w1 hP hq h0 => ly_cl h0 hq hP (row_1z w) (Nat.lt_of_lt_of_eq (Nat.lt_succ_self _) (Go.Deep.nblk_alloc w _).symm) rfl (Nat.le_refl _) (by decide)
theorem aw_len {w0 w : World} {a : Any} (h : a.At w0 w) (hk : a.kd = 3) (hN : NewA 1 [0] 0 0 0 0 0 0 a) : Calls Tryz.prog 11 #[.pointer (some ⟨a.q.m, 0, none⟩)] w fun e w' => e = .returned (.int .i64 3) ∧ w = w' := by
  have c := len_any h.port.mem
  have e : a.ps.ws.length = 3 := by
    cases a
    all_goals first | (obtain ⟨rfl, _⟩ := hN; rfl) | cases hk
  rw [e] at c
  exact c
def AwkPost (w : World) (e : Ending) (w' : World) : Prop := e = .returned (.bool true) ∧ Wrote Nil w w'
set_option maxHeartbeats 4000000 in
theorem fl_awake (w : World) : Calls Tryz.prog 9 #[] w (AwkPost w) := by
  go_enter Tryz.func9, Tryz.ntmps9
  go_wp2_with (first
    | (go_at_call 10; (with_reducible refine (aw_1 _).mono ?_); intro e w1 hq; unfold MxPost at hq; obtain ⟨rfl, hW⟩ := hq; have H1 := Lib.hid hW; clear hW)
    | (go_at_call 10; (with_reducible refine (aw_2 _ _).mono ?_); intro e w2 hq; unfold MxPost at hq; obtain ⟨rfl, hW⟩ := hq; have H2 := Lib.hid ((H1.out.alloc _).nil hW); clear hW)
    | (go_at_call 10; (with_reducible refine (aw_3 _).mono ?_); intro e w3 hq; unfold MkPost at hq; obtain ⟨a, rfl, hA, hk, hN⟩ := hq; unfold Any.val; have c0 := hA.port.cell0; have cL := aw_len hA hk hN; have H3 := Lib.hid ((H2.out.alloc _).nil hA.wr); clear hA hk hN)
    | (go_at_call 11; (with_reducible refine cL.mono ?_); rintro e w4 ⟨rfl, rfl⟩))
  go_ret
  exact ⟨rfl, H3.out⟩
end Go.Proofs.YteokghghpmppnaaGreatDoor
