/- An argument that is a struct of one-cell fields of whatever kinds (numbers, truths, slices), opened field by field; no program is named. -/
import Derived.Test.YtiddapikahchkaaOpen
namespace Go.Proofs.Ytiddapikahchkaa
open Go.ChangeShapes Go.WideShapes Go.Deep Go.RowKit
set_option linter.unusedVariables false
section
variable {H : Type} {enc : TypeId × Value → H} {P : Program} {w : World} {base : Nat} {spare : Nat → Bool} {held : Bool}

/-- a struct by value: the value written out; each field's cell with its own reading -/
theorem open_struct_fields {r : Reach} {b0 : Nat} {e : TypeId} {fs : Array Field} {m : Nat} {v : Value} {d : DataW H} {p : List MemPlace} (he : P.underlying e = some (.struct fs)) (hone : oneCellFields P fs = true) (hC : P.cellsOf e = m)
    (hv : Value.okWide P w r b0 e v) (h : DataW.Trod enc P w base spare held e v d p) :
    ∃ cs : List Value, v = .agg cs.toArray ∧ cs.length = m ∧ ∀ (j : Nat) (f : Field) (c : Value), fs[j]? = some f → cs[j]? = some c → ∃ (n : Nat) (y : DataW H × List MemPlace), DataW.trod enc P w base spare held n f.type [c] = some y := by
  obtain ⟨⟨cs⟩, rfl, hsz⟩ := okWide_struct he hv
  have hl : cs.length = m := by rw [← hC, ← hsz]; rfl
  obtain ⟨fuel, hf⟩ := h
  obtain ⟨ys, n, _, _, hlen, hyl, hg⟩ := DataW.trod_struct he (by simpa [Value.cells] using hf)
  refine ⟨cs, rfl, hl, fun j f c hj hc => ?_⟩
  obtain ⟨ho, hk⟩ := hone_of hone j f hj
  have h1 := hg j f hj
  have hjl : j < cs.length := (List.getElem?_eq_some_iff.1 hc).1
  have hjy : j < ys.length := by rw [hyl]; exact (Array.getElem?_eq_some_iff.1 hj).1
  have e1 : cs[j] = c := (List.getElem?_eq_some_iff.1 hc).2
  have h2 : (cs.drop j).take 1 = [c] := by rw [List.drop_eq_getElem_cons hjl, e1]; rfl
  rw [ho, hk, h2, List.getElem?_eq_getElem hjy] at h1
  exact ⟨n, _, h1⟩

theorem fld_int {t : TypeId} {k : IntKind} {n : Nat} {c : Value} {y : DataW H × List MemPlace} (ht : P.underlying t = some (.int k)) (h : DataW.trod enc P w base spare held n t [c] = some y) : ∃ a, c = .int k a ∧ (Lit.int k a).wf = true := by
  obtain ⟨z, hz, _, hw⟩ := DataW.trod_int ht h
  exact ⟨z, by simpa using hz, hw⟩
theorem fld_bool {t : TypeId} {n : Nat} {c : Value} {y : DataW H × List MemPlace} (ht : P.underlying t = some .bool) (h : DataW.trod enc P w base spare held n t [c] = some y) : ∃ b, c = .bool b := by
  obtain ⟨b, hb, _⟩ := DataW.trod_bool ht h
  exact ⟨b, by simpa using hb⟩
theorem fld_slice {t e : TypeId} {n : Nat} {c : Value} {y : DataW H × List MemPlace} (ht : P.underlying t = some (.slice e)) (h : DataW.trod enc P w base spare held n t [c] = some y) :
    ∃ sa len cap, c = .slice sa len cap ∧ DataW.Trod enc P w base spare held t (.slice sa len cap) y.1 y.2 := by
  have key : ∃ sa len cap, c = .slice sa len cap := by
    rcases open_slice ht h with ⟨h0, _⟩ | ⟨a, len, cap, m, n, D, Pl, hcs, _⟩
    · exact ⟨none, 0, 0, by simpa using h0⟩
    · exact ⟨some a, len, cap, by simpa using hcs⟩
  obtain ⟨sa, len, cap, rfl⟩ := key
  exact ⟨sa, len, cap, rfl, n, by simpa [Value.cells] using h⟩
end
end Go.Proofs.Ytiddapikahchkaa
