/- What the laws on events ask of Decode: where its events lie; the program's fixed answer (awake). -/
import Derived.Test.YtpmceoifppnnbaaEventDo
import Derived.Test.YtpmceoifppnnbaaEventRef
namespace Go.Proofs.Ytpmceoifppnnbaa
open Go.RowKit
set_option linter.unusedVariables false

/-- events that lie in the world -/
def DecPost (w : World) (zs : List Int) (e : Ending) (w' : World) : Prop :=
  ∃ sa cap, e = .returned (.slice sa (evs zs).length cap) ∧ RecsAt evCells 3 w' sa (evs zs).length (evs zs) ∧ Wrote Nil w w'
theorem dec_any {w : World} {sa : Option Addr} {n cap : Nat} {zs : List Int} (h : RowAt .u8 w sa n zs) (hb : Bytes zs) (hm : n ≤ 1000000) (hcap : n ≤ cap) :
    Calls Try.prog 7 #[.slice sa n cap] w (DecPost w zs) := by
  refine (ev_decode h hb hm hcap).mono ?_
  intro e w' hP
  obtain ⟨dv, rfl, hG⟩ := hP
  obtain ⟨so, cp, rfl, _, hr, _⟩ := own_recs ev_len hG.own (by decide)
  exact ⟨so, cp, rfl, hr, hG.wrote⟩

theorem three_row (w : World) (a b c : Int) (t : TypeId) : RowAt .u8 (w.alloc (.cells #[.int .u8 a, .int .u8 b, .int .u8 c] t)) (some ⟨w.heap.size, 0, none⟩) 3 [a, b, c] := by
  refine ⟨rfl, (fun h => nomatch h), fun ad ha j hj => ?_⟩
  have h := news_at w ([a, b, c].map (Value.int .u8)) t w.heap.size rfl j
  obtain rfl : ⟨w.heap.size, 0, none⟩ = ad := by simpa using ha
  have : j = 0 ∨ j = 1 ∨ j = 2 := by omega
  rcases this with rfl | rfl | rfl
  · exact h _ rfl
  · exact h _ rfl
  · exact h _ rfl
theorem awake_evs : evs [4, 14, 7] = [(2, 0, 0), (3, 1, 7)] := by decide

set_option maxHeartbeats 1000000 in
theorem awake_any (w : World) : Calls Try.prog 6 #[] w fun e w' => e = .returned (.bool true) ∧ Wrote Nil w w' := by
  have c1 : Calls Try.prog 7 #[.slice (some ⟨w.heap.size, 0, none⟩) 3 3] _ _ := dec_any (cap := 3) (three_row w 4 14 7 5) (by intro x hx; simp at hx; omega) (by decide) (by decide)
  unfold DecPost at c1
  rw [awake_evs] at c1
  go_enter Try.func6, Try.ntmps6
  go_wp2_with (go_at_call 7; with_reducible refine c1.mono ?_; rintro e w1 ⟨sa, cap, rfl, hr, hW⟩; have HR := Lib.hid (And.intro hr hW); clear hr hW; rcases HR.out.1.at ev_ne with h0 | ⟨b, o, rfl, hc⟩; (exfalso; simp at h0); have f0 : w1.cell? ⟨b, o, none⟩ = some (.int .i64 2) := hc 0 _ rfl 0 _ rfl; have f1 : w1.cell? ⟨b, o + 1, none⟩ = some (.int .i64 0) := hc 0 _ rfl 1 _ rfl; have f2 : w1.cell? ⟨b, o + 2, none⟩ = some (.int .i64 0) := hc 0 _ rfl 2 _ rfl; have f3 : w1.cell? ⟨b, o + 3, none⟩ = some (.int .i64 3) := hc 1 _ rfl 0 _ rfl; have f4 : w1.cell? ⟨b, o + 3 + 1, none⟩ = some (.int .i64 1) := hc 1 _ rfl 1 _ rfl; have f5 : w1.cell? ⟨b, o + 3 + 2, none⟩ = some (.int .i64 7) := hc 1 _ rfl 2 _ rfl; clear hc)
  go_ret
  exact ⟨rfl, ((Wrote.refl Nil w).alloc _).nil HR.out.2⟩

/-- the events of the reference that lie in the world -/
def RecPost (w : World) (zs : List Int) (e : Ending) (w' : World) : Prop :=
  ∃ sa cap, e = .returned (.slice sa (evs zs).length cap) ∧ RecsAt evCells 3 w' sa (evs zs).length (evs zs) ∧ Wrote Nil w w'
theorem rec_any {w : World} {zs : List Int} (hb : Bytes zs) (s : ByteArray) (hs : s = strOfNums zs) (hm : zs.length ≤ 1000) : Calls Try.prog 8 #[.string s] w (RecPost w zs) := by
  refine (ref_decode hb s hs hm).mono ?_
  intro e w' hP
  obtain ⟨dv, rfl, hG⟩ := hP
  obtain ⟨so, cp, rfl, _, hr, _⟩ := own_recs ev_len hG.own (by decide)
  exact ⟨so, cp, rfl, hr, hG.wrote⟩

/-- bytes, as a string -/
theorem conv_str {w : World} {sa : Option Addr} {n cap : Nat} {zs : List Int} (h : RowAt .u8 w sa n zs) : (convert 22 9 (.slice sa n cap)).run Try.prog w = .ok (.string (strOfNums zs)) w := by
  cases sa with
  | none =>
    obtain rfl := h.empty rfl
    obtain rfl : zs = [] := List.eq_nil_of_length_eq_zero h.len
    exact run_convert_bytes_nil w _ _ Try.underlying22 Try.underlying5 _ _ _ Try.underlying9
  | some a =>
    have hl : (loadCells a n).run Try.prog w = .ok (zs.map (Value.int .u8)).toArray w := by
      have := run_loadCells_list (P := Try.prog) w a (zs.map (Value.int .u8)) (fun j v hj => h.news a rfl j v hj)
      simpa [h.len] using this
    rw [run_convert_bytes_string w _ _ _ _ n cap Try.underlying22 Try.underlying5 Try.underlying9, run_bytesToString w _ n cap zs hl, foldl_push_bytes]
    simp [strOfNums, ByteArray.empty, ByteArray.emptyWithCapacity]
    rfl
theorem wf_bytes {l : List Int} (h : ∀ z ∈ l, (Lit.int .u8 z).wf = true) : Bytes l := fun z hz => u8_bd (h z hz)
end Go.Proofs.Ytpmceoifppnnbaa
