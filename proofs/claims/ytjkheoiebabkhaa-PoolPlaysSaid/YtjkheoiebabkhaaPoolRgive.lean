/- The contract of the reference's Give. -/
import Derived.Test.YtjkheoiebabkhaaPoolRtk
namespace Go.Proofs.Ytjkheoiebabkhaa
open Go.RowKit
set_option linter.unusedVariables false

/-- since when each node is its owner's, and how many givings there were, behind a giving -/
def sinceG (s : PS) (since : Nat → Nat) (C : Nat) (id to : Int) : Nat → Nat := if okG s id to then upd since id.toNat C else since
def cntG (s : PS) (C : Nat) (id to : Int) : Nat := if okG s id to then C + 1 else C

theorem ret_mid_drew {w w2 : World} {o0 o1 o2 : Obj} (h : Wrote Nil (((w.alloc o0).alloc o1).alloc o2).drew w2) : w2.heap[w.heap.size + 1]? = some o1 ∧ w2.heap[w.heap.size]? = some o0 :=
  ret_mid (((Wrote.refl Nil _).drew).nil h)

/-- the pool stored in its own box, the count raised -/
theorem give_mid {w2 V : World} {P : Nat} {u0 u1 v c c1 : Value} {t : TypeId} (b : w2.heap[P]? = some (.cells #[u0, u1] t (0, 0)))
    (hV : V = ((w2.setCell ⟨P, 0, none⟩ v).setCell ⟨P, 1, none⟩ c).setCell ⟨P, 1, none⟩ c1) : V.cell? ⟨P, 0, none⟩ = some v ∧ V.cell? ⟨P, 1, none⟩ = some c1 ∧ Wrote (One P) w2 V := by
  have bV : V.heap[P]? = some (.cells #[v, c1] t (0, 0)) := by
    rw [hV, blk_setCell (blk_setCell (blk_setCell b 0 _) 1 _) 1 _]
    rfl
  refine ⟨(blk_cell bV 0).trans rfl, (blk_cell bV 1).trans rfl, ?_⟩
  rw [hV]
  exact (((Wrote.refl (One P) w2).setCell ⟨P, 0, none⟩ _ fun _ => rfl).setCell ⟨P, 1, none⟩ _ fun _ => rfl).setCell ⟨P, 1, none⟩ _ fun _ => rfl
theorem give_done {w w2 V W W3 : World} {so0 so2 : Option Addr} {cap2 P R : Nat} {s' : PS} {since' : Nat → Nat} {C x : Int} (h0 : Wrote Nil w W3) (hW2 : Wrote Nil W3 w2) (hR : RfAt w2 so2 s' since') (hn : ∀ b, so2 = some b → W3.heap.size ≤ b.block)
    (hP3 : P < W3.heap.size) (hR3 : R < W3.heap.size) (hPw : w.heap.size ≤ P) (hRw : w.heap.size ≤ R) (hV : Wrote (One P) w2 V) (hW : Wrote (One R) V W) :
    RfPost w so0 s' since' C x (.returned (.tuple #[.agg #[.slice so2 s'.n cap2, .int .i64 C], .int .i64 x])) W :=
  ⟨so2, cap2, rfl, (hR.wrote hV fun b hb e => by have := hn b hb; have e' : b.block = P := e; omega).wrote hW fun b hb e => by have := hn b hb; have e' : b.block = R := e; omega, ((h0.nil hW2).one hV hPw).one hW hRw, fun b hb => .inr (by have := hn b hb; have := h0.size; omega)⟩

set_option maxRecDepth 100000 in
set_option maxHeartbeats 4000000 in
theorem rf_give {w : World} {so : Option Addr} {cap : Nat} {s : PS} {since : Nat → Nat} (h : RfAt w so s since) (hN : s.n ≤ 1000) (C : Nat) (hC : C ≤ 1000) (id to : Int) :
    Calls Try.prog 13 #[.agg #[.slice so s.n cap, .int .i64 (C : Int)], .int .i64 id, .int .i64 to, .int .i64 (s.T : Int)] w (RfPost w so (s.giveI id to) (sinceG s since C id to) (cntG s C id to : Nat) (giveE s id to)) := by
  by_cases hok : okG s id to
  · obtain ⟨k, rfl⟩ : ∃ k : Nat, id = (k : Int) + 1 := ⟨(id - 1).toNat, by have := hok.1; omega⟩
    have hk : k < s.n := by have := hok.1; omega
    have e1 : s.giveI ((k : Int) + 1) to = s.give (k + 1) to := by unfold PS.giveI; rw [if_pos hok, show ((k : Int) + 1).toNat = k + 1 by omega]
    have e2 : sinceG s since C ((k : Int) + 1) to = upd since (k + 1) C := by unfold sinceG; rw [if_pos hok, show ((k : Int) + 1).toNat = k + 1 by omega]
    have e3 : ((cntG s C ((k : Int) + 1) to : Nat) : Int) = (C : Int) + 1 := by unfold cntG; rw [if_pos hok]; omega
    have e4 : giveE s ((k : Int) + 1) to = 0 := by unfold giveE; rw [if_pos hok]
    rw [e1, e2, e3, e4]
    obtain ⟨b, o, rfl, hc⟩ := rf_at h (by omega)
    obtain ⟨y0, y1, y2⟩ := hc k hk
    have hb : b < w.heap.size := World.block_lt_of_cell? w _ y0
    have hi1 : ¬ (k : Int) + 1 < 1 := by omega
    have hi2 : ¬ (s.n : Int) < (k : Int) + 1 := by omega
    have hi3 : ¬ to < -1 := by have := hok.2; omega
    have hi4 : ¬ (s.T : Int) ≤ to := by have := hok.2; omega
    have hk' : (k : Int) < s.n := by omega
    have hk9 : (k : Int) < 1000 := by omega
    have cW : ∀ W, Wrote Nil w W → Calls Try.prog 21 #[.agg #[.slice (some ⟨b, o, none⟩) s.n cap, .int .i64 (C : Int)], .int .i64 ((k : Int) + 1), .agg #[.int .i64 to, .int .i64 (C : Int), .bool (s.out (k + 1))]] W (WithPost W (s.give (k + 1) to) (upd since (k + 1) C) (C : Int)) := fun W hW => rf_with (s' := s.give (k + 1) to) (since' := upd since (k + 1) C) (h.after hW) (by omega) hk rfl (C : Int) _ _ _ (refC_give s since k C to)
    have H := Lib.hid h
    clear h hc hok e1 e2 e3 e4
    generalize s.own (k + 1) = O1 at y0
    generalize since (k + 1) = S1 at y1
    generalize s.out (k + 1) = B1 at y2 cW
    go_enter Try.func13, Try.ntmps13
    go_wp2
    go_region
    go_upto_region 7 with (go_at_call 21; with_reducible refine (cW _ (((((Wrote.refl Nil w).alloc _).alloc _).alloc _).drew)).mono ?_; intro e w2 h2; unfold WithPost at h2; obtain ⟨so2, cap2, rfl, hR2, hW2, hn2⟩ := h2; obtain ⟨m1, m0⟩ := ret_mid_drew hW2; have r0 := (blk_cell m1 0).trans rfl; have r1 := (blk_cell m1 1).trans rfl; have f0 := blk_frozen m1 0; have f1 := blk_frozen m1 1; have p0 := (blk_cell m0 0).trans rfl; have p1 := (blk_cell m0 1).trans rfl; have g0 := blk_frozen m0 0; have g1 := blk_frozen m0 1; have HW2 := Lib.hid (And.intro hW2 (And.intro hR2 (And.intro hn2 (And.intro m1 m0)))); clear hW2 hR2 hn2 m1 m0)
    obtain ⟨V, hV⟩ : ∃ V, V = ((w2.setCell ⟨w.heap.size, 0, none⟩ (.slice so2 (s.give (k + 1) to).n cap2)).setCell ⟨w.heap.size, 1, none⟩ (.int .i64 (C : Int))).setCell ⟨w.heap.size, 1, none⟩ (.int .i64 ((C : Int) + 1)) := ⟨_, rfl⟩
    obtain ⟨q0, q1, q2⟩ := give_mid HW2.out.2.2.2.2 hV
    have m1 := (q2.block (w.heap.size + 1) (blk_lt HW2.out.2.2.2.1) (fun e => by have e' : w.heap.size + 1 = w.heap.size := e; omega)).trans HW2.out.2.2.2.1
    rw [← hV]
    clear r0 r1 f0 f1 p0 p1 g0 g1 hV
    have r0 := (blk_cell m1 0).trans rfl
    have r1 := (blk_cell m1 1).trans rfl
    have f0 := blk_frozen m1 0
    have f1 := blk_frozen m1 1
    have HQ := Lib.hid (And.intro q2 m1)
    clear q2 m1
    go_wp2
    (try simp only [Exit.inBlock, Exit.then])
    obtain ⟨W5, hW5⟩ : ∃ W5, W5 = (V.setCell ⟨w.heap.size + 1, 0, none⟩ (.slice so2 (s.give (k + 1) to).n cap2)).setCell ⟨w.heap.size + 1, 1, none⟩ (.int .i64 ((C : Int) + 1)) := ⟨_, rfl⟩
    obtain ⟨p2, p3, p4⟩ := ret_end HQ.out.2 hW5
    rw [← hW5]
    clear hW5 r0 r1 f0 f1 q0 q1
    refine bodyPost_ret (v := .tuple #[.agg #[.slice so2 (s.give (k + 1) to).n cap2, .int .i64 ((C : Int) + 1)], .int .i64 0]) ?_ rfl (give_done (((((Wrote.refl Nil w).alloc _).alloc _).alloc _).drew) HW2.out.1 HW2.out.2.1 HW2.out.2.2.1 (P := w.heap.size) (R := w.heap.size + 1) (by show w.heap.size < (World.alloc _ _).heap.size; rw [(three_new w _ _ _).2]; omega) (by show w.heap.size + 1 < (World.alloc _ _).heap.size; rw [(three_new w _ _ _).2]; omega) (Nat.le_refl _) (by omega) HQ.out.1 p4)
    rw [results_cell_tmp rfl]
    go_simp
  · have e1 : s.giveI id to = s := by unfold PS.giveI; rw [if_neg hok]
    have e2 : sinceG s since C id to = since := by unfold sinceG; rw [if_neg hok]
    have e3 : cntG s C id to = C := by unfold cntG; rw [if_neg hok]
    have e4 : giveE s id to = 1 := by unfold giveE; rw [if_neg hok]
    rw [e1, e2, e3, e4]
    have hw : id < 1 ∨ (¬ id < 1 ∧ (s.n : Int) < id) ∨ (¬ id < 1 ∧ ¬ (s.n : Int) < id ∧ to < -1) ∨ (¬ id < 1 ∧ ¬ (s.n : Int) < id ∧ ¬ to < -1 ∧ (s.T : Int) ≤ to) := by
      unfold okG at hok
      omega
    have H := Lib.hid h
    clear h e1 e2 e3 e4 hok
    rcases hw with h1 | ⟨h1, h2⟩ | ⟨h1, h2, h3⟩ | ⟨h1, h2, h3, h4⟩
    all_goals
      go_enter Try.func13, Try.ntmps13
      go_wp2
      (try simp only [Exit.inBlock, Exit.then])
      refine bodyPost_ret (v := .tuple #[.agg #[.slice so s.n cap, .int .i64 (C : Int)], .int .i64 1]) ?_ rfl ⟨_, _, rfl, H.out.after (((Wrote.refl Nil w).alloc _).alloc _), ((Wrote.refl Nil w).alloc _).alloc _, fun b hb => .inl hb⟩
      rw [results_cell_tmp rfl]
      go_simp
end Go.Proofs.Ytjkheoiebabkhaa
