/- The document's example of layer 19. -/
import Derived.Test.YtmnephejhkfchaaFiGo
namespace Go.Proofs.Ytmnephejhkfchaa.Fi
open Go.RowKit Go.BigFrame
set_option linter.unusedVariables false
set_option maxRecDepth 100000
set_option maxHeartbeats 2000000

theorem recs_blk {w : World} {b : Nat} {cs : Array Value} {ty : TypeId} {D : List Ent} (h : w.heap[b]? = some (.cells cs ty (0, 0))) (hc : cs.toList = D.flatMap Ent.cells) : RecsAt Ent.cells 4 w (some ⟨b, 0, none⟩) D.length D := by
  refine ⟨rfl, (fun e => nomatch e), fun a ha k x hx j u hu => ?_⟩
  cases ha
  rw [Go.Addr.add_lit, Nat.zero_add, blk_cell h, ← Array.getElem?_toList, hc, flat_at' Ent.clen D hx (by have := (List.getElem?_eq_some_iff.1 hu).1; rw [Ent.clen] at this; exact this)]
  exact hu
def aw1 : List Ent := [⟨1, 0, 0, false⟩, ⟨2, 0, 0, false⟩, ⟨1, 1, 0, false⟩, ⟨2, 1, 0, false⟩, ⟨4, 1, 0, false⟩]
def aw2 : List Ent := [⟨1, 0, 0, false⟩, ⟨2, 0, 0, false⟩, ⟨1, 1, 0, false⟩, ⟨2, 1, 0, false⟩, ⟨4, 0, 0, false⟩]
theorem aw1_chk : FA.new.chk (held 2) aw1 = 4 := by decide
theorem aw2_chk : FA.new.chk (held 2) aw2 = 5 := by decide
def AwPost (w : World) (e : Ending) (w' : World) : Prop := e = .returned (.bool true) ∧ Wrote Nil w w'
theorem fi_awake (w : World) : Calls Try.prog 5 #[] w (AwPost w) := by
  obtain ⟨X, hX⟩ : ∃ X, X = w.alloc (.cells #[.int .i64 1, .int .i64 0, .int .i64 0, .bool false, .int .i64 2, .int .i64 0, .int .i64 0, .bool false, .int .i64 1, .int .i64 1, .int .i64 0, .bool false, .int .i64 2, .int .i64 1, .int .i64 0, .bool false, .int .i64 4, .int .i64 1, .int .i64 0, .bool false] 36) := ⟨_, rfl⟩
  obtain ⟨B, hBe⟩ : ∃ B, B = w.heap.size := ⟨_, rfl⟩
  have hWX : Wrote Nil w X := by rw [hX]; exact (Wrote.refl _ _).alloc _
  have hB : X.heap[B]? = some (.cells #[.int .i64 1, .int .i64 0, .int .i64 0, .bool false, .int .i64 2, .int .i64 0, .int .i64 0, .bool false, .int .i64 1, .int .i64 1, .int .i64 0, .bool false, .int .i64 2, .int .i64 1, .int .i64 0, .bool false, .int .i64 4, .int .i64 1, .int .i64 0, .bool false] 36 (0, 0)) := by rw [hX, hBe]; exact Go.Deep.blk_alloc_new _ _
  have c1 := fi_check (N := 5) (cap := 5) (recs_blk (D := aw1) hB rfl) (by decide) 2
  have e1 : ChPost 2 aw1 X = fun e w' => e = .returned (.tuple #[.int .i64 4, .bool false]) ∧ Wrote Nil X w' := by unfold ChPost; rw [aw1_chk]; rfl
  rw [e1] at c1
  have hs2 : ∀ W : World, W.heap[B]? = some (.cells #[.int .i64 1, .int .i64 0, .int .i64 0, .bool false, .int .i64 2, .int .i64 0, .int .i64 0, .bool false, .int .i64 1, .int .i64 1, .int .i64 0, .bool false, .int .i64 2, .int .i64 1, .int .i64 0, .bool false, .int .i64 4, .int .i64 1, .int .i64 0, .bool false] 36 (0, 0)) → (W.setCell ⟨B, 17, none⟩ (.int .i64 0)).heap[B]? = some (.cells #[.int .i64 1, .int .i64 0, .int .i64 0, .bool false, .int .i64 2, .int .i64 0, .int .i64 0, .bool false, .int .i64 1, .int .i64 1, .int .i64 0, .bool false, .int .i64 2, .int .i64 1, .int .i64 0, .bool false, .int .i64 4, .int .i64 0, .int .i64 0, .bool false] 36 (0, 0)) := fun W h => blk_setCell h 17 (.int .i64 0)
  have c2 : ∀ W : World, W.heap[B]? = some (.cells #[.int .i64 1, .int .i64 0, .int .i64 0, .bool false, .int .i64 2, .int .i64 0, .int .i64 0, .bool false, .int .i64 1, .int .i64 1, .int .i64 0, .bool false, .int .i64 2, .int .i64 1, .int .i64 0, .bool false, .int .i64 4, .int .i64 0, .int .i64 0, .bool false] 36 (0, 0)) → Calls Try.prog 6 #[.int .i64 2, .slice (some ⟨B, 0, none⟩) 5 5] W fun e w' => e = .returned (.tuple #[.int .i64 5, .bool true]) ∧ Wrote Nil W w' := fun W h => by
    have c := fi_check (N := 5) (cap := 5) (recs_blk (D := aw2) h rfl) (by decide) 2
    have e2 : ChPost 2 aw2 W = fun e w' => e = .returned (.tuple #[.int .i64 5, .bool true]) ∧ Wrote Nil W w' := by unfold ChPost; rw [aw2_chk]; rfl
    rw [e2] at c
    exact c
  have HX := Lib.hid (And.intro hX (And.intro hBe (And.intro hWX (And.intro hB (And.intro hs2 (show w.heap.size ≤ B by omega))))))
  have H2 := Lib.hid c2
  clear hX hBe hWX hB e1 hs2 c2
  go_enter Try.func5, Try.ntmps5
  go_upto_region 2 with fail
  rw [← HX.out.1, ← HX.out.2.1]
  go_upto_region 3 with (go_at_call 6; (with_reducible refine c1.mono ?_); rintro e w1 ⟨rfl, hW1⟩; have hB1 := (hW1.block B (blk_lt HX.out.2.2.2.1) id).trans HX.out.2.2.2.1; have f1 := blk_frozen hB1 17; have d1 : w1.cell? ⟨B, 17, none⟩ = some (.int .i64 1) := (blk_cell hB1 17).trans rfl; have H1 := Lib.hid (And.intro hW1 hB1); clear hW1 hB1 c1)
  obtain ⟨Y, hY⟩ : ∃ Y, Y = w1.setCell ⟨B, 17, none⟩ (.int .i64 0) := ⟨_, rfl⟩
  have hBY := HX.out.2.2.2.2.1 _ H1.out.2
  have hWY : Wrote (One B) w1 Y := by rw [hY]; exact (Wrote.refl _ w1).setCell _ _ fun _ => rfl
  rw [← hY] at hBY
  have c2 := H2.out Y hBY
  have HE := Lib.hid ((HX.out.2.2.1.nil H1.out.1).one hWY HX.out.2.2.2.2.2)
  have HY := Lib.hid hY
  clear hBY hWY hY H2
  go_upto_region 4 with fail
  rw [← HY.out]
  go_wp2_with (go_at_call 6; (with_reducible refine c2.mono ?_); rintro e w3 ⟨rfl, hW3⟩; have H3 := Lib.hid (HE.out.nil hW3); clear hW3)
  go_ret
  exact ⟨rfl, H3.out⟩
/-- the entries of an argument -/
def entZ (z : Nat → Nat → Int) (i : Nat) : Ent := ⟨z i 0, z i 1, z i 2, decide (z i 3 = 1)⟩
theorem ents_in {w : World} {sa : Option Addr} {n : Nat} {z : Nat → Nat → Int} (h : StructsK w [.int .i64, .int .i64, .int .i64, .bool] sa n z) : RecsAt Ent.cells 4 w sa n ((List.range n).map (entZ z)) :=
  h.recs (entZ z) fun i hi j u hu => by
    have hj : j < 4 := (List.getElem?_eq_some_iff.1 hu).1
    have : j = 0 ∨ j = 1 ∨ j = 2 ∨ j = 3 := by omega
    rcases this with rfl | rfl | rfl | rfl
    all_goals
      simp only [Ent.cells, entZ] at hu
      exact ⟨_, rfl, (Option.some.inj hu).symm⟩
theorem recs_take {f : Ent → List Value} {s : Nat} {w : World} {sa : Option Addr} {n : Nat} {D : List Ent} (h : RecsAt f s w sa n D) {k : Nat} (hk : k ≤ n) : RecsAt f s w sa k (D.take k) := by
  refine ⟨by rw [List.length_take, h.len]; omega, fun e => by have := h.empty e; omega, fun b hb i x hx j u hu => h.cell b hb i x ?_ j u hu⟩
  rw [List.getElem?_take] at hx
  split at hx
  · exact hx
  · cases hx
end Go.Proofs.Ytmnephejhkfchaa.Fi
