/- What the rows list gives the walks, and the door's own heap meets it. -/
import Derived.Test.YtihlokhejopphaaDoorRows
import Derived.Test.YtihlokhejopphaaDoorTrRead
import Derived.ProofKit
import Derived.LaidMore
import Derived.OpenShut
import Derived.Stop.Joined
import Derived.Stop.LaidErr
import Derived.Lib.LaidTab
namespace Go.Proofs.YtihlokhejopphaaDoor
open Go.ChangeShapes Go.WideShapes Go.ChangeAt Go.WideMaps Go.WideElems Go.RowKit
set_option linter.unusedVariables false

theorem own : ownKnob Tryd.prog.godebug = none := by kernel_rfl
theorem laidOut : laidOutB Tryd.prog = true := by kernel_rfl
theorem gWords : Tryd.prog.globalNamed "weighlock/trace.words" = some 0 := by kernel_rfl
theorem tWords : (Tryd.prog.globals[(0 : Nat)]?).map (·.type) = some 52 := by kernel_rfl

theorem wordL_at (k : Nat) (hk : k < 9) : ∃ r, ([[], [99, 97, 108, 108], [101, 110, 113], [97, 114, 114, 105, 118, 101], [103, 114, 97, 110, 116], [116, 105, 109, 101, 111, 117, 116], [117, 110, 108, 111, 99, 107], [114, 101, 116, 117, 114, 110], [114, 101, 102, 117, 115, 101]] : List (List UInt8))[k]? = some r ∧ r = wordL k := by
  have : k = 0 ∨ k = 1 ∨ k = 2 ∨ k = 3 ∨ k = 4 ∨ k = 5 ∨ k = 6 ∨ k = 7 ∨ k = 8 := by omega
  rcases this with rfl | rfl | rfl | rfl | rfl | rfl | rfl | rfl | rfl <;> exact ⟨_, rfl, rfl⟩
theorem words_datum {H : Type} : (Rows.laid_weighlock_trace_words : DataW H) = .agg (([[], [99, 97, 108, 108], [101, 110, 113], [97, 114, 114, 105, 118, 101], [103, 114, 97, 110, 116], [116, 105, 109, 101, 111, 117, 116], [117, 110, 108, 111, 99, 107], [114, 101, 116, 117, 114, 110], [114, 101, 102, 117, 115, 101]] : List (List UInt8)).map fun l => .lit (.string l)) := rfl

theorem words_of_head {W : World} {rest : List (String × DataW Unit)} (h : laidMet Tryd.prog (("weighlock/trace.words", Rows.laid_weighlock_trace_words) :: rest) W) :
    ∀ k : Nat, k < 9 → W.cell? ⟨0, k, none⟩ = some (.string (strB (wordL k))) := by
  obtain ⟨ps, ⟨g0, t0, cs0, f0, p0, q0, hg0, ht0, hv0, hd0, _, _⟩, _, _⟩ := h
  obtain rfl := Option.some.inj (gWords.symm.trans hg0)
  obtain rfl := Option.some.inj (tWords.symm.trans ht0)
  obtain ⟨xs, m1, hf1, hx1, hlen, hn3, hel⟩ := DataW.trod_array Tryd.underlying52 hd0
  rw [words_datum] at hx1
  simp only [Prod.mk.injEq, DataW.agg.injEq] at hx1
  have c1 : Tryd.prog.cellsOf 9 = 1 := by kernel_rfl
  intro k hk
  obtain ⟨r, hr, hrw⟩ := wordL_at k hk
  have hk2 := hel k hk
  have h1 : (xs.map (·.1))[k]? = some (DataW.lit (.string r)) := by rw [← hx1.1, List.getElem?_map, hr]; rfl
  rw [List.getElem?_map] at h1
  obtain ⟨y, hy, hy1⟩ := Option.map_eq_some_iff.1 h1
  rw [hy] at hk2
  obtain ⟨b, hb, hyb, _⟩ := DataW.trod_string Tryd.underlying9 hk2
  rw [c1, Nat.mul_one] at hb
  have hb1 : cs0.toList[k]? = some (.string b) := by
    have := congrArg (·[0]?) hb
    simpa [List.getElem?_take, List.getElem?_drop] using this
  have hbr : b = strB (wordL k) := by
    rw [hyb] at hy1
    simp only [DataW.lit.injEq, Lit.string.injEq] at hy1
    rw [← hrw, ← hy1]
    rfl
  have := World.var?_cell hg0 hv0 k
  rw [this, ← Array.getElem?_toList, hb1, hbr]
theorem pow_of_head {W : World} {rest : List (String × DataW Unit)} (h : laidMet Tryd.prog (("internal/strconv.uint64pow10", Rows.laid_internal_strconv_uint64pow10) :: rest) W) : Lib.TabIs Tryd.prog W "internal/strconv.uint64pow10" .u64 Lib.pow10Tab :=
  Lib.tabIs_of_head (g := 2) (t := 130) (e := 100) (n := 20) (rest := rest) (by kernel_rfl) (by kernel_rfl) Tryd.underlying130 Tryd.underlying100 (by kernel_rfl) (by kernel_rfl) h

/-- what the rows of Tells and Visible list -/
def laidF : List (String × DataW Unit) := [("math/bits.deBruijn32tab", Rows.laid_math_bits_deBruijn32tab), ("math/bits.deBruijn64tab", Rows.laid_math_bits_deBruijn64tab), ("internal/strconv.uint64pow10", Rows.laid_internal_strconv_uint64pow10), ("weighlock/trace.words", Rows.laid_weighlock_trace_words)]
theorem globF {W : World} (h : laidMetH Tryd.prog laidF W) : Glob W := by
  rw [MakeChecks.laidMetH_plain _ _ _ (by kernel_rfl)] at h
  have h2 := h.tail.tail
  exact ⟨words_of_head h2.tail, pow_of_head h2⟩
/-- the door's own heap meets it -/
theorem doorF (os : Os) (args : Array Value) : laidMetH Tryd.prog laidF ((World.doorLaid Tryd.prog 400 os).forCall (fun _ _ => 0) ⟨#[], args, []⟩).memory :=
  laidMetH_of_parts3 (fuel := 8) (laidMet_of_run' 8 (by kernel_rfl) (by kernel_rfl)) (by kernel_rfl) (by kernel_rfl)

/-- the entries of an argument -/
def entZ (z : Nat → Nat → Int) (i : Nat) : Ent := ⟨z i 0, z i 1, z i 2, decide (z i 3 = 1)⟩
theorem ents_in {w : World} {sa : Option Addr} {n : Nat} {z : Nat → Nat → Int} (h : StructsK w [.int .i64, .int .i64, .int .i64, .bool] sa n z) : RecsAt eC 4 w sa n ((List.range n).map (entZ z)) :=
  h.recs (entZ z) fun i hi j u hu => by
    have hj : j < 4 := (List.getElem?_eq_some_iff.1 hu).1
    have : j = 0 ∨ j = 1 ∨ j = 2 ∨ j = 3 := by omega
    rcases this with rfl | rfl | rfl | rfl
    all_goals
      simp only [eC, entZ] at hu
      exact ⟨_, rfl, (Option.some.inj hu).symm⟩
theorem ents_wf {w : World} {sa : Option Addr} {n : Nat} {z : Nat → Nat → Int} (h : StructsK w [.int .i64, .int .i64, .int .i64, .bool] sa n z) : ∀ e ∈ (List.range n).map (entZ z), (Lit.int .i64 e.t).wf = true := by
  intro e he
  simp only [List.mem_map, List.mem_range] at he
  obtain ⟨i, hi, rfl⟩ := he
  cases sa with
  | none => have := h.empty rfl; omega
  | some a => exact (h.cell a rfl i hi 1 (.int .i64) rfl).2
end Go.Proofs.YtihlokhejopphaaDoor
