/- A pool and the reference's beside it in the law's memory: the calls as the law makes them. -/
import Derived.Test.YtjkheoiebabkhaaPoolSame
namespace Go.Proofs.Ytjkheoiebabkhaa
open Go.RowKit
set_option linter.unusedVariables false

/-! the pool, and the reference's beside it -/
/-- the blocks of the reference's pool: the variable's, the nodes' -/
def Abl (r : Nat) (so : Option Addr) (k : Nat) : Prop := k = r ∨ ∃ b, so = some b ∧ k = b.block
structure PlTwo (w wr : World) (p r : Nat) (s s' : PS) (since : Nat → Nat) (C : Nat) (so : Option Addr) (cap : Nat) : Prop where
  pool : PAt w wr (Abl r so) p s
  recs : RfAt wr so s' since
  box : wr.heap[r]? = some (.cells #[.slice so s'.n cap, .int .i64 (C : Int)] 30 (0, 0))
  far : ∀ b, so = some b → b.block ≠ r
  new : w.heap.size ≤ r
/-- behind a call of the reference: the variable still holds what it held -/
structure PlMid (w wr : World) (p r : Nat) (s s' : PS) (since : Nat → Nat) (so : Option Addr) (u0 u1 : Value) : Prop where
  pool : PAt w wr (Abl r so) p s
  recs : RfAt wr so s' since
  box : wr.heap[r]? = some (.cells #[u0, u1] 30 (0, 0))
  far : ∀ b, so = some b → b.block ≠ r
  new : w.heap.size ≤ r

theorem rec_lt {w : World} {so : Option Addr} {s : PS} {since : Nat → Nat} (h : RfAt w so s since) (hn : 0 < s.n) : ∀ b, so = some b → b.block < w.heap.size := fun b hb => by
  obtain ⟨g, o, e, hc⟩ := rf_at h hn
  rw [hb] at e
  obtain rfl : b = ⟨g, o, none⟩ := by simpa using e
  exact World.block_lt_of_cell? w _ (hc 0 hn).1
theorem PlTwo.same {w wr wr' : World} {p r : Nat} {s s' : PS} {since : Nat → Nat} {C : Nat} {so : Option Addr} {cap : Nat} (h : PlTwo w wr p r s s' since C so cap) (hW : Wrote Nil wr wr') : PlTwo w wr' p r s s' since C so cap :=
  ⟨h.pool.same hW, h.recs.after hW, (hW.block r (blk_lt h.box) id).trans h.box, h.far, h.new⟩
def MidPost (w W : World) (p r : Nat) (s s' : PS) (since : Nat → Nat) (C : Int) (x : Int) (u0 u1 : Value) (e : Ending) (w' : World) : Prop :=
  ∃ so cap, e = .returned (.tuple #[.agg #[.slice so s'.n cap, .int .i64 C], .int .i64 x]) ∧ PlMid w w' p r s s' since so u0 u1 ∧ Wrote Nil W w'
theorem pl_mid {w wr W w2 : World} {p r : Nat} {s s' : PS} {since since' : Nat → Nat} {C : Nat} {C' x : Int} {so : Option Addr} {cap : Nat} {e : Ending} (h : PlTwo w wr p r s s since C so cap) (hn' : s'.n = s.n) (hW : Wrote Nil wr W) (hP : RfPost W so s' since' C' x e w2) :
    MidPost w W p r s s' since' C' x (.slice so s.n cap) (.int .i64 (C : Int)) e w2 := by
  obtain ⟨so2, cap2, rfl, hR, hW2, hb⟩ := hP
  have hWW := hW.nil hW2
  have lr := blk_lt h.box
  have hs := hW.size
  refine ⟨so2, cap2, rfl, ⟨h.pool.after hWW fun k hk => ?_, hR, (hWW.block r lr id).trans h.box, fun b hb' e => ?_, h.new⟩, hW2⟩
  · rcases hk with rfl | ⟨b, hb1, rfl⟩
    · exact ⟨Nat.lt_of_lt_of_le lr hWW.size, .inl (.inl rfl)⟩
    · have hn : 0 < s'.n := by have := h.pool.inv.n1; omega
      refine ⟨rec_lt hR hn b hb1, ?_⟩
      rcases hb b hb1 with x | x
      · exact .inl (.inr ⟨b, x, rfl⟩)
      · exact .inr (by omega)
  · rcases hb b hb' with x | x
    · exact h.far b x e
    · omega
/-- the variable stored -/
theorem pl_store {w w2 W : World} {p r : Nat} {s s' : PS} {since' : Nat → Nat} {C' : Nat} {so2 : Option Addr} {cap2 : Nat} {u0 u1 : Value} {o : Obj} (h : PlMid w w2 p r s s' since' so2 u0 u1) (hW : W = ((w2.setCell ⟨r, 0, none⟩ (.slice so2 s'.n cap2)).setCell ⟨r, 1, none⟩ (.int .i64 (C' : Int))).alloc o) :
    PlTwo w W p r s s' since' C' so2 cap2 := by
  have lr := blk_lt h.box
  have bW : W.heap[r]? = some (.cells #[.slice so2 s'.n cap2, .int .i64 (C' : Int)] 30 (0, 0)) := by
    rw [hW, Go.Deep.blk_alloc_lt _ _ _ (by rw [Go.Deep.nblk_setCell, Go.Deep.nblk_setCell]; exact lr), blk_setCell (blk_setCell h.box 0 _) 1 _]
    rfl
  have hWW : Wrote (One r) w2 W := by
    rw [hW]
    exact (((Wrote.refl (One r) _).setCell ⟨r, 0, none⟩ _ fun _ => rfl).setCell ⟨r, 1, none⟩ _ fun _ => rfl).alloc _
  obtain ⟨⟨q, hp, hPl, hF⟩, hl, hw, hI⟩ := h.pool
  exact ⟨⟨⟨q, hp, hPl.wrote hWW fun b hb e => (hF b hb).2 (.inl e), hF⟩, fun k hk => Nat.lt_of_lt_of_le (hl k hk) hWW.size, hw.one hWW h.new, hI⟩, h.recs.wrote hWW fun b hb e => h.far b hb e, bW, h.far, h.new⟩
theorem pl_keep {w2 W : World} {r : Nat} {v0 v1 : Value} {o : Obj} (hW : W = ((w2.setCell ⟨r, 0, none⟩ v0).setCell ⟨r, 1, none⟩ v1).alloc o) {k i : Nat} {u : Value} (hk : k ≠ r) (hc : w2.cell? ⟨k, i, none⟩ = some u) : W.cell? ⟨k, i, none⟩ = some u := by
  have hWW : Wrote (One r) w2 W := by
    rw [hW]
    exact (((Wrote.refl (One r) _).setCell ⟨r, 0, none⟩ _ fun _ => rfl).setCell ⟨r, 1, none⟩ _ fun _ => rfl).alloc _
  exact hWW.cell hc hk
def PlPost (w : World) (p r : Nat) (s : PS) (since : Nat → Nat) (C : Nat) (so : Option Addr) (cap : Nat) (v : Value) (e : Ending) (w' : World) : Prop := e = .returned v ∧ PlTwo w w' p r s s since C so cap
theorem pl_done {w wr w' : World} {p r : Nat} {s s' : PS} {since : Nat → Nat} {C : Nat} {so : Option Addr} {cap : Nat} (h : PlTwo w wr p r s s' since C so cap) (hP : PAt w w' (Abl r so) p s') (hW : Wrote (Far w (Abl r so)) wr w') : PlTwo w w' p r s' s' since C so cap :=
  ⟨hP, h.recs.wrote hW fun b hb e => e.2 (.inr ⟨b, hb, rfl⟩), (hW.block r (blk_lt h.box) fun e => e.2 (.inl rfl)).trans h.box, h.far, h.new⟩

theorem pick_row (s : PS) (t : Int) : pickL s (s.rowI t) = s.pick t := by
  unfold pickL PS.rowI PS.pick
  split
  · rfl
  · rfl
theorem rowI_mem {s : PS} (hI : PInv s) (t : Int) : ∀ x ∈ s.rowI t, 1 ≤ x ∧ x ≤ s.n := by
  intro x hx
  unfold PS.rowI at hx
  split at hx
  · have := hI.mem t.toNat x (by omega) hx
    exact ⟨this.1, this.2.1⟩
  · simp at hx

/-! the six calls, as the law makes them -/
section
variable {w wr : World} {p r : Nat} {s : PS} {since : Nat → Nat} {C : Nat} {so : Option Addr} {cap : Nat}
theorem r_take_yes (h : PlTwo w wr p r s s since C so cap) (hS : Sim s since C) (hC : C ≤ 1000) {t : Int} {id : Nat} (hp : s.pick t = some id) {W : World} (hW : Wrote Nil wr W) :
    Calls Try.prog 9 #[.agg #[.slice so s.n cap, .int .i64 (C : Int)], .int .i64 t] W (MidPost w W p r s (s.setOut id true) since (C : Int) (id : Int) (.slice so s.n cap) (.int .i64 (C : Int))) := by
  have hI := h.pool.inv
  have hn := hI.n2
  have hl := rowI_len hI t
  refine (rf_take_yes (cap := cap) (h.recs.after hW) (by omega) C hC t (hS.all hI t) (rowI_mem hI t) (by omega) (id := id) (by rw [pick_row, hp])).mono ?_
  intro e w2 hP
  exact pl_mid h rfl hW hP
theorem r_take_no (h : PlTwo w wr p r s s since C so cap) (hS : Sim s since C) (hC : C ≤ 1000) {t : Int} (hp : s.pick t = none) {W : World} (hW : Wrote Nil wr W) :
    Calls Try.prog 9 #[.agg #[.slice so s.n cap, .int .i64 (C : Int)], .int .i64 t] W (MidPost w W p r s s since (C : Int) 0 (.slice so s.n cap) (.int .i64 (C : Int))) := by
  have hI := h.pool.inv
  have hn := hI.n2
  have hl := rowI_len hI t
  refine (rf_take_no (cap := cap) (h.recs.after hW) (by omega) C hC t (hS.all hI t) (rowI_mem hI t) (by omega) (by rw [pick_row, hp])).mono ?_
  intro e w2 hP
  exact pl_mid h rfl hW hP
theorem r_back (h : PlTwo w wr p r s s since C so cap) (id : Int) {W : World} (hW : Wrote Nil wr W) :
    Calls Try.prog 11 #[.agg #[.slice so s.n cap, .int .i64 (C : Int)], .int .i64 id] W (MidPost w W p r s (s.back id) since (C : Int) (backE s id) (.slice so s.n cap) (.int .i64 (C : Int))) := by
  have hI := h.pool.inv
  have hn := hI.n2
  refine (rf_back (cap := cap) (h.recs.after hW) (by omega) (C : Int) id).mono ?_
  intro e w2 hP
  exact pl_mid h (by unfold PS.back; split <;> rfl) hW hP
theorem r_give (h : PlTwo w wr p r s s since C so cap) (hC : C ≤ 1000) (id dst : Int) {W : World} (hW : Wrote Nil wr W) :
    Calls Try.prog 13 #[.agg #[.slice so s.n cap, .int .i64 (C : Int)], .int .i64 id, .int .i64 dst, .int .i64 (s.T : Int)] W (MidPost w W p r s (s.giveI id dst) (sinceG s since C id dst) (cntG s C id dst : Nat) (giveE s id dst) (.slice so s.n cap) (.int .i64 (C : Int))) := by
  have hI := h.pool.inv
  have hn := hI.n2
  refine (rf_give (cap := cap) (h.recs.after hW) (by omega) C hC id dst).mono ?_
  intro e w2 hP
  exact pl_mid h (giveI_nT s id dst).1 hW hP
theorem p_take_yes {so2 : Option Addr} {cap2 : Nat} {t : Int} {id : Nat} (h : PlTwo w wr p r s (s.setOut id true) since C so2 cap2) (hp : s.pick t = some id) :
    Calls Try.prog 10 #[.pointer (some ⟨p, 0, none⟩), .int .i64 t] wr (PlPost w p r (s.setOut id true) since C so2 cap2 (.tuple #[.int .i64 (id : Int), .int .i64 0])) := by
  have hpool := h.pool
  obtain ⟨⟨q, rfl, hP, hF⟩, hl, hw, hI⟩ := hpool
  refine (po_take_yes hP hI t id hp).mono ?_
  rintro e w' ⟨rfl, hP', hW⟩
  obtain ⟨a1, a2⟩ := PAt.step hP hF hl hw (hI.setOut id true) rfl rfl hP' hW (Grew.refl _ _)
  exact ⟨rfl, pl_done h a1 a2⟩
theorem p_take_no {so2 : Option Addr} {cap2 : Nat} {t : Int} (h : PlTwo w wr p r s s since C so2 cap2) (hp : s.pick t = none) :
    Calls Try.prog 10 #[.pointer (some ⟨p, 0, none⟩), .int .i64 t] wr (PlPost w p r s since C so2 cap2 (.tuple #[.int .i64 0, .int .i64 6])) := by
  have hpool := h.pool
  obtain ⟨⟨q, rfl, hP, hF⟩, hl, hw, hI⟩ := hpool
  refine (po_take_no hP hI t hp).mono ?_
  rintro e w' ⟨rfl, hW⟩
  exact ⟨rfl, h.same hW⟩
theorem p_back {so2 : Option Addr} {cap2 : Nat} {id : Int} (h : PlTwo w wr p r s (s.back id) since C so2 cap2) :
    Calls Try.prog 12 #[.pointer (some ⟨p, 0, none⟩), .int .i64 id] wr (PlPost w p r (s.back id) since C so2 cap2 (.int .i64 (backE s id))) := by
  have hpool := h.pool
  obtain ⟨⟨q, rfl, hP, hF⟩, hl, hw, hI⟩ := hpool
  have hn := hI.n2
  refine (po_back hP (by omega) id).mono ?_
  rintro e w' ⟨rfl, hP', hW⟩
  obtain ⟨a1, a2⟩ := PAt.step hP hF hl hw (hI.back id) (by unfold PS.back; split <;> rfl) rfl hP' hW (Grew.refl _ _)
  exact ⟨rfl, pl_done h a1 a2⟩
theorem p_give {so2 : Option Addr} {cap2 : Nat} {id dst : Int} {since' : Nat → Nat} {C' : Nat} (h : PlTwo w wr p r s (s.giveI id dst) since' C' so2 cap2) :
    Calls Try.prog 14 #[.pointer (some ⟨p, 0, none⟩), .int .i64 id, .int .i64 dst] wr (PlPost w p r (s.giveI id dst) since' C' so2 cap2 (.int .i64 (giveE s id dst))) := by
  refine (pa_give h.pool id dst).mono ?_
  rintro e w' ⟨rfl, hP', hW⟩
  exact ⟨rfl, pl_done h hP' hW⟩
theorem p_same (h : PlTwo w wr p r s s since C so cap) (hS : Sim s since C) (hC : C ≤ 1000) :
    Calls Try.prog 15 #[.pointer (some ⟨p, 0, none⟩), .agg #[.slice so s.n cap, .int .i64 (C : Int)], .int .i64 (s.T : Int)] wr fun e w' => e = .returned (.bool true) ∧ PlTwo w w' p r s s since C so cap := by
  refine (po_same h.pool h.recs hS hC).mono ?_
  rintro e w' ⟨rfl, hW⟩
  exact ⟨rfl, h.same hW⟩
end
/-- between two calls -/
def PlSt (w : World) (p r T M j : Nat) (wr : World) : Prop := ∃ s since C so cap, PlTwo w wr p r s s since C so cap ∧ Sim s since C ∧ s.n = M ∧ s.T = T ∧ C ≤ M + j
theorem cntG_le (s : PS) (C : Nat) (id dst : Int) : cntG s C id dst ≤ C + 1 := by
  unfold cntG
  split <;> omega
def PlNew (w : World) (T e : Nat) (en : Ending) (w' : World) : Prop := ∃ p, en = .returned (.tuple #[.pointer (some ⟨p, 0, none⟩), .int .i64 0]) ∧ PAt w w' (fun _ => False) p (newS T e)
theorem plnew (w : World) {T e : Nat} (t1 : 1 ≤ T) (t2 : T ≤ 64) (e1 : 1 ≤ e) (e2 : e ≤ 8) : Calls Try.prog 7 #[.int .i64 (T : Int), .int .i64 (e : Int)] w (PlNew w T e) := pa_new (Wrote.refl Nil w) T e t1 t2 e1 e2
theorem pl_start {w w1 w2 : World} {T e p : Nat} {so : Option Addr} {cap : Nat} (t1 : 1 ≤ T) (e1 : 1 ≤ e) (h : PAt w w1 (fun _ => False) p (newS T e)) (hR : RfAt w2 so (newS T e) since0) (hW : Wrote Nil w1 w2) (hb : ∀ b, so = some b → w1.heap.size ≤ b.block) :
    PlTwo w (w2.alloc (.cells #[.slice so (newS T e).n cap, .int .i64 ((T * e : Nat) : Int)] 30)) p w2.heap.size (newS T e) (newS T e) since0 (T * e) so cap := by
  have hA : Wrote Nil w2 (w2.alloc (.cells #[.slice so (newS T e).n cap, .int .i64 ((T * e : Nat) : Int)] 30)) := (Wrote.refl _ _).alloc _
  have hn : 0 < (newS T e).n := by
    have := Nat.mul_le_mul t1 e1
    show 0 < T * e
    omega
  have hl := rec_lt hR hn
  have hs := (hW.nil hA).size
  have hs1 := hW.size
  refine ⟨h.after (hW.nil hA) fun k hk => ?_, hR.after hA, Go.Deep.blk_alloc_new _ _, fun b hb' e => ?_, Nat.le_trans h.wrote.size hW.size⟩
  · rcases hk with rfl | ⟨b, hb1, rfl⟩
    · rw [Go.Deep.nblk_alloc]
      exact ⟨by omega, .inr hs1⟩
    · have := hl b hb1
      rw [Go.Deep.nblk_alloc]
      exact ⟨by omega, .inr (hb b hb1)⟩
  · have := hl b hb'
    omega

end Go.Proofs.Ytjkheoiebabkhaa
