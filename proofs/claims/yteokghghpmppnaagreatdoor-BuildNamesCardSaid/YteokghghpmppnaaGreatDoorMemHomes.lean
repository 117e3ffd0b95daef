/- The contracts of (*mem.Mem).Home and of the reference's Homes: a word's home; whether all homes may be. -/
import Derived.Test.YteokghghpmppnaaGreatDoorMemRef
namespace Go.Proofs.YteokghghpmppnaaGreatDoor
open Go.RowKit
set_option linter.unusedVariables false
set_option maxRecDepth 100000

theorem load_rep (n : Nat) (a : Int) : loadI (List.replicate n 0) a = 0 := by
  unfold loadI
  split
  · rw [List.getD_eq_getElem?_getD, List.getElem?_replicate]
    split <;> rfl
  · rfl
theorem home_rep (n : Nat) : homesOK (List.replicate n 0) = true := by
  unfold homesOK
  rw [List.all_eq_true]
  intro z hz
  rw [List.eq_of_mem_replicate hz]
  decide
/-- a made row of numbers -/
theorem row_made {w : World} {k : IntKind} {t : TypeId} {b L : Nat} (hb : b = w.heap.size) : RowAt k (w.alloc (.cells (madeCells #[.int k 0] L) t)) (some ⟨b, 0, none⟩) L (List.replicate L 0) := by
  subst hb
  refine ⟨by simp, (fun h => nomatch h), fun a ha j hj => ?_⟩
  obtain rfl : ⟨w.heap.size, 0, none⟩ = a := by simpa using ha
  rw [Go.Addr.add_lit, Nat.zero_add, World.cell?_alloc_new]
  simp [madeCells, hj, Nat.mod_one]

theorem load_quiet {m bw : Nat} {hv : Value} {hs ws : List Int} {w : World} (h : MemAt w m bw hv hs ws) (a : Int) :
    Calls Tryz.prog 65 #[.pointer (some ⟨m, 0, none⟩), .int .i64 a] w fun e w' => e = .returned (.int .u32 (loadI ws a)) ∧ w' = w :=
  (load_any h a).mono fun e w' ⟨h1, h2⟩ => ⟨h1, h2.symm⟩

theorem doL_other (ws : List Int) (K a old v : Int) (j : Nat) (h : ¬ (j : Int) = a) : (doL ws K a old v).getD j 0 = ws.getD j 0 := by
  have key : ∀ z, (storeL ws a z).getD j 0 = ws.getD j 0 := by
    intro z
    unfold storeL
    split
    · rw [List.getD_eq_getElem?_getD, List.getD_eq_getElem?_getD, List.getElem?_set]
      rw [if_neg (by omega)]
    · rfl
  unfold doL addL
  split
  · exact key _
  · split
    · unfold casL
      split
      · exact key _
      · rfl
    · split
      · exact key _
      · rfl

theorem ext_getD {l l' : List Int} {n : Nat} (h1 : l.length = n) (h2 : l'.length = n) (h : ∀ j, j < n → l.getD j 0 = l'.getD j 0) : l = l' := by
  apply List.ext_getElem (by omega)
  intro j hj hj'
  have := h j (by omega)
  simpa [hj, hj'] using this
theorem wf_getD {zs : List Int} (h : ∀ z ∈ zs, (Lit.int .u32 z).wf = true) (j : Nat) : 0 ≤ zs.getD j 0 ∧ zs.getD j 0 < 4294967296 := by
  by_cases hj : j < zs.length
  · have e : zs.getD j 0 = zs[j] := by simp [hj]
    rw [e]
    exact u32_bd (h _ (List.getElem_mem hj))
  · simp [List.getElem?_eq_none (show zs.length ≤ j by omega)]
end Go.Proofs.YteokghghpmppnaaGreatDoor
