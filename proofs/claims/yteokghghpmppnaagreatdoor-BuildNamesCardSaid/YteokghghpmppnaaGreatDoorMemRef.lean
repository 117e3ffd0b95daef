/- The contracts of the reference's access, and the answers by definition, beside the laws on package mem. -/
import Derived.Test.YteokghghpmppnaaGreatDoorMemNew
namespace Go.Proofs.YteokghghpmppnaaGreatDoor
open Go.RowKit
set_option linter.unusedVariables false
set_option maxRecDepth 100000

theorem row_one {w : World} {k : IntKind} {z : Int} {t : TypeId} {b : Nat} (hb : b = w.heap.size) : RowAt k (w.alloc (.cells #[.int k z] t)) (some ⟨b, 0, none⟩) 1 [z] := by
  subst hb
  refine ⟨rfl, by simp, fun b hb j hj => ?_⟩
  obtain rfl : ⟨w.heap.size, 0, none⟩ = b := by simpa using hb
  obtain rfl : j = 0 := by omega
  simp [Addr.add]

/-- mem.New, told from an earlier world on -/
theorem new_since {w0 w : World} {sa : Option Addr} {m c : Nat} {hs : List Int} (h0 : Wrote Nil w0 w) (hr : RowAt .i64 w sa m hs) (hm : m ≤ 4096) (ho : homesOK hs = true) :
    Calls Tryz.prog 38 #[.slice sa m c] w fun e w' => ∃ b bw hv, e = .returned (.tuple #[.pointer (some ⟨b, 0, none⟩), .int .i64 0]) ∧ MemAt w' b bw hv hs (List.replicate m 0) ∧ w0.heap.size ≤ b ∧ w0.heap.size ≤ bw ∧ (∀ k, hv.ownBlock = some k → w0.heap.size ≤ k) ∧ Wrote Nil w0 w' := by
  refine (new_ok hr hm ho).mono ?_
  rintro e w' ⟨b, bw, hv, he, hM, h1, h2, h3, hW⟩
  have hs := h0.size
  exact ⟨b, bw, hv, he, hM, by omega, by omega, fun k hk => by have := h3 k hk; omega, h0.nil hW⟩

theorem cas_one (v old : Int) : casB [v] 0 old = decide (v = old) := by simp [casB, hasB, loadI]
theorem casL_one (v old a : Int) : casL [v] 0 old a = if v = old then [a] else [v] := by
  unfold casL
  rw [cas_one]
  by_cases h : v = old <;> simp [h, storeL]

/-! ### an access: kind K (1 Load, 2 Store, 3 Swap, 4 Cas, 5 Add), address a, old, v -/
def doL (ws : List Int) (K a old v : Int) : List Int := if K = 2 ∨ K = 3 then storeL ws a v else if K = 4 then casL ws a old v else if K = 5 then addL ws a v else ws
def tellI (ws : List Int) (K a : Int) : Int := if K = 1 ∨ K = 3 ∨ K = 5 then loadI ws a else 0
def didI (ws : List Int) (K a old : Int) : Int := if K = 4 ∧ casB ws a old = true then 1 else 0
theorem doL_len (ws : List Int) (K a old v : Int) : (doL ws K a old v).length = ws.length := by
  unfold doL addL
  split
  · exact storeL_len _ _ _
  · split
    · exact casL_len _ _ _ _
    · split
      · exact storeL_len _ _ _
      · rfl

/-! ### the reference's answer: a list that is laid anew -/
def DoPost (so0 : Option Addr) (ws : List Int) (K a old v : Int) (w : World) (e : Ending) (w' : World) : Prop :=
  ∃ so cap, e = .returned (.tuple #[.slice so ws.length cap, .int .u32 (tellI ws K a), .int .i64 (didI ws K a old)]) ∧ RowAt .u32 w' so ws.length (doL ws K a old v) ∧ Wrote Nil w w' ∧ ∀ q, so = some q → so0 = some q ∨ w.heap.size ≤ q.block

theorem set_keeps {w1 : World} {g b k j : Nat} {u x : Value} (hc : w1.cell? ⟨b, j, none⟩ = some x) (hne : b < g) : (w1.setCell ⟨g, k, none⟩ u).cell? ⟨b, j, none⟩ = some x := by
  rw [World.cell?_setCell_other _ _ _ _ (by intro h; simp only [Addr.mk.injEq] at h; omega)]
  exact hc

end Go.Proofs.YteokghghpmppnaaGreatDoor
