/- The contracts of the reference's Take, Back and Give. -/
import Derived.Test.YtjkheoiebabkhaaPoolRef
import Derived.BigRegion
namespace Go.Proofs.Ytjkheoiebabkhaa
open Go.RowKit
set_option linter.unusedVariables false

def RfPost (w : World) (so0 : Option Addr) (s' : PS) (since' : Nat → Nat) (C x : Int) (e : Ending) (w' : World) : Prop :=
  ∃ so cap, e = .returned (.tuple #[.agg #[.slice so s'.n cap, .int .i64 C], .int .i64 x]) ∧ RfAt w' so s' since' ∧ Wrote Nil w w' ∧ ∀ b, so = some b → so0 = some b ∨ w.heap.size ≤ b.block

/-- the block of the result, behind a call -/
theorem ret_mid {w w2 : World} {o0 o1 o2 : Obj} (h : Wrote Nil (((w.alloc o0).alloc o1).alloc o2) w2) : w2.heap[w.heap.size + 1]? = some o1 ∧ w2.heap[w.heap.size]? = some o0 := by
  obtain ⟨⟨h0, h1, _⟩, hs⟩ := three_new w o0 o1 o2
  exact ⟨(h.block _ (by omega) id).trans h1, (h.block _ (by omega) id).trans h0⟩
/-- a pool stored in the block of the result -/
theorem ret_end {w2 W : World} {R : Nat} {u0 u1 v0 v1 : Value} {t : TypeId} (b : w2.heap[R]? = some (.cells #[u0, u1] t (0, 0))) (hW : W = (w2.setCell ⟨R, 0, none⟩ v0).setCell ⟨R, 1, none⟩ v1) :
    W.cell? ⟨R, 0, none⟩ = some v0 ∧ W.cell? ⟨R, 1, none⟩ = some v1 ∧ Wrote (One R) w2 W := by
  have bW : W.heap[R]? = some (.cells #[v0, v1] t (0, 0)) := by
    rw [hW, blk_setCell (blk_setCell b 0 _) 1 _]
    rfl
  refine ⟨(blk_cell bW 0).trans rfl, (blk_cell bW 1).trans rfl, ?_⟩
  rw [hW]
  exact ((Wrote.refl (One R) w2).setCell ⟨R, 0, none⟩ _ fun _ => rfl).setCell ⟨R, 1, none⟩ _ fun _ => rfl
theorem with_done {w w2 W W3 : World} {so0 so2 : Option Addr} {cap2 R : Nat} {s' : PS} {since' : Nat → Nat} {C x : Int} (h0 : Wrote Nil w W3) (hW2 : Wrote Nil W3 w2) (hR : RfAt w2 so2 s' since') (hn : ∀ b, so2 = some b → W3.heap.size ≤ b.block) (hR3 : R < W3.heap.size) (hRw : w.heap.size ≤ R) (hW : Wrote (One R) w2 W) :
    RfPost w so0 s' since' C x (.returned (.tuple #[.agg #[.slice so2 s'.n cap2, .int .i64 C], .int .i64 x])) W :=
  ⟨so2, cap2, rfl, hR.wrote hW fun b hb e => by have := hn b hb; have e' : b.block = R := e; omega, (h0.nil hW2).one hW hRw, fun b hb => .inr (by have := hn b hb; have := h0.size; omega)⟩

theorem refC_out (s : PS) (since : Nat → Nat) (k : Nat) (b : Bool) (id : Nat) : refC (s.setOut (k + 1) b) since id = if id = k + 1 then [.int .i64 (s.own (k + 1)), .int .i64 (since (k + 1) : Int), .bool b] else refC s since id := by
  unfold refC PS.setOut
  simp only
  by_cases e : id = k + 1
  · rw [if_pos e, e, upd_same]
  · rw [if_neg e, upd_other _ _ e]
theorem refC_give (s : PS) (since : Nat → Nat) (k C : Nat) (to : Int) (id : Nat) : refC (s.give (k + 1) to) (upd since (k + 1) C) id = if id = k + 1 then [.int .i64 to, .int .i64 (C : Int), .bool (s.out (k + 1))] else refC s since id := by
  unfold refC PS.give
  simp only
  by_cases e : id = k + 1
  · rw [if_pos e, e, upd_same, upd_same]
  · rw [if_neg e, upd_other _ _ e, upd_other _ _ e]

/-! ### Back -/
set_option maxRecDepth 100000 in
set_option maxHeartbeats 2000000 in
theorem rf_back {w : World} {so : Option Addr} {cap : Nat} {s : PS} {since : Nat → Nat} (h : RfAt w so s since) (hN : s.n ≤ 1000) (C id : Int) :
    Calls Try.prog 11 #[.agg #[.slice so s.n cap, .int .i64 C], .int .i64 id] w (RfPost w so (s.back id) since C (backE s id)) := by
  by_cases hi : 1 ≤ id ∧ id ≤ s.n
  · obtain ⟨k, rfl⟩ : ∃ k : Nat, id = (k : Int) + 1 := ⟨(id - 1).toNat, by omega⟩
    have hk : k < s.n := by omega
    have ho : outI s ((k : Int) + 1) = s.out (k + 1) := if_pos hi
    obtain ⟨b, o, rfl, hc⟩ := rf_at h (by omega)
    obtain ⟨y0, y1, y2⟩ := hc k hk
    have hb : b < w.heap.size := World.block_lt_of_cell? w _ y0
    clear hc
    cases hq : s.out (k + 1)
    · rw [hq] at y2 ho
      have e1 : s.back ((k : Int) + 1) = s := by unfold PS.back; rw [if_neg (by rw [ho]; simp)]
      have e2 : backE s ((k : Int) + 1) = 6 := by unfold backE; rw [if_pos hi, ho]; rfl
      rw [e1, e2]
      have hi1 : ¬ (k : Int) + 1 < 1 := by omega
      have hi2 : ¬ (s.n : Int) < (k : Int) + 1 := by omega
      have hk' : (k : Int) < s.n := by omega
      have H := Lib.hid h
      clear h hq ho e1 e2 hi
      generalize s.own (k + 1) = O1 at y0
      generalize since (k + 1) = S1 at y1
      go_enter Try.func11, Try.ntmps11
      go_wp2
      (try simp only [Exit.inBlock, Exit.then])
      refine bodyPost_ret (v := .tuple #[.agg #[.slice (some ⟨b, o, none⟩) s.n cap, .int .i64 C], .int .i64 6]) ?_ rfl ⟨_, _, rfl, H.out.after ((((Wrote.refl Nil w).alloc _).alloc _).alloc _), (((Wrote.refl Nil w).alloc _).alloc _).alloc _, fun b hb => .inl hb⟩
      rw [results_cell_tmp rfl]
      go_simp
    · rw [hq] at y2 ho
      have e1 : s.back ((k : Int) + 1) = s.setOut (k + 1) false := by unfold PS.back; rw [if_pos ⟨hi.1, hi.2, ho⟩, show ((k : Int) + 1).toNat = k + 1 by omega]
      have e2 : backE s ((k : Int) + 1) = 0 := by unfold backE; rw [if_pos hi, if_pos ho]
      rw [e1, e2]
      have hi1 : ¬ (k : Int) + 1 < 1 := by omega
      have hi2 : ¬ (s.n : Int) < (k : Int) + 1 := by omega
      have hk' : (k : Int) < s.n := by omega
      have cW : ∀ W, Wrote Nil w W → Calls Try.prog 21 #[.agg #[.slice (some ⟨b, o, none⟩) s.n cap, .int .i64 C], .int .i64 ((k : Int) + 1), .agg #[.int .i64 (s.own (k + 1)), .int .i64 (since (k + 1) : Int), .bool false]] W (WithPost W (s.setOut (k + 1) false) since C) := fun W hW => rf_with (s' := s.setOut (k + 1) false) (since' := since) (h.after hW) (by omega) hk rfl C _ _ false (refC_out s since k false)
      have H := Lib.hid h
      clear h hq ho e1 e2 hi
      generalize s.own (k + 1) = O1 at y0 cW
      generalize since (k + 1) = S1 at y1 cW
      go_enter Try.func11, Try.ntmps11
      go_wp2_with (go_at_call 21; with_reducible refine (cW _ ((((Wrote.refl Nil w).alloc _).alloc _).alloc _)).mono ?_; intro e w2 h2; unfold WithPost at h2; obtain ⟨so2, cap2, rfl, hR2, hW2, hn2⟩ := h2; obtain ⟨m1, m0⟩ := ret_mid hW2; have r0 := (blk_cell m1 0).trans rfl; have r1 := (blk_cell m1 1).trans rfl; have f0 := blk_frozen m1 0; have f1 := blk_frozen m1 1; have HW2 := Lib.hid (And.intro hW2 (And.intro hR2 (And.intro hn2 m1))); clear hW2 hR2 hn2 m1 m0)
      (try simp only [Exit.inBlock, Exit.then])
      obtain ⟨W5, hW5⟩ : ∃ W5, W5 = (w2.setCell ⟨w.heap.size + 1, 0, none⟩ (.slice so2 (s.setOut (k + 1) false).n cap2)).setCell ⟨w.heap.size + 1, 1, none⟩ (.int .i64 C) := ⟨_, rfl⟩
      obtain ⟨p2, p3, p4⟩ := ret_end HW2.out.2.2.2 hW5
      rw [← hW5]
      clear hW5 r0 r1 f0 f1
      refine bodyPost_ret (v := .tuple #[.agg #[.slice so2 (s.setOut (k + 1) false).n cap2, .int .i64 C], .int .i64 0]) ?_ rfl (with_done ((((Wrote.refl Nil w).alloc _).alloc _).alloc _) HW2.out.1 HW2.out.2.1 HW2.out.2.2.1 (by rw [(three_new w _ _ _).2]; omega) (by omega) p4)
      rw [results_cell_tmp rfl]
      go_simp
  · have hw : id < 1 ∨ (¬ id < 1 ∧ (s.n : Int) < id) := by omega
    have e1 : s.back id = s := by unfold PS.back; rw [if_neg (fun x => hi ⟨x.1, x.2.1⟩)]
    have e2 : backE s id = 1 := by unfold backE; rw [if_neg hi]
    rw [e1, e2]
    have H := Lib.hid h
    clear h e1 e2 hi
    rcases hw with h1 | ⟨h1, h2⟩
    all_goals
      go_enter Try.func11, Try.ntmps11
      go_wp2
      (try simp only [Exit.inBlock, Exit.then])
      refine bodyPost_ret (v := .tuple #[.agg #[.slice so s.n cap, .int .i64 C], .int .i64 1]) ?_ rfl ⟨_, _, rfl, H.out.after (((Wrote.refl Nil w).alloc _).alloc _), ((Wrote.refl Nil w).alloc _).alloc _, fun b hb => .inl hb⟩
      rw [results_cell_tmp rfl]
      go_simp
end Go.Proofs.Ytjkheoiebabkhaa
