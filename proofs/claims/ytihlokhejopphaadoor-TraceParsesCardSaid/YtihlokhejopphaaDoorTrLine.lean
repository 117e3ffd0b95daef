/- The contracts of package trace's line, and of the reference's Digits, Words and Line. -/
import Derived.Test.YtihlokhejopphaaDoorTrAsk
import Derived.Test.YtihlokhejopphaaDoorTrWrite
import Derived.Deep.RegionHeld3
import Derived.Deep.RegionWith
import Derived.Laws.Concat
import Derived.Laws.BytesString
import Derived.IntWalk
namespace Go.Proofs.YtihlokhejopphaaDoor
open Go.RowKit
set_option linter.unusedVariables false

/-- a string of these bytes -/
def strB (l : List UInt8) : ByteArray := ⟨l.toArray⟩
theorem strB_size (l : List UInt8) : (strB l).size = l.length := rfl
theorem strB_app (a b : List UInt8) : strB a ++ strB b = strB (a ++ b) := ByteArray.mk_append_mk a b
theorem strB_list (l : List UInt8) : (strB l).toList = l := ByteArray.toList_mk l
theorem strB_data (l : List UInt8) : (strB l).data.toList = l := rfl
theorem add_str {a b : List UInt8} (h : a.length + b.length ≤ 1000000) (W : World) : (Op.stringOp .add (strB a) (strB b)).run Tryd.prog W = .ok (.string (strB (a ++ b))) W := by
  rw [run_string_add_sum W _ _ (by rw [strB_size, strB_size]; omega), strB_app]

theorem var_after {P : Program} {S : Nat → Prop} {w w' : World} {n : String} {cs : Array Value} (h : Wrote Nil w w') (hv : w.var? P n = some cs) : w'.var? P n = some cs := by
  unfold World.var? at hv ⊢
  cases hg : P.globalNamed n with
  | none => rw [hg] at hv; cases hv
  | some g =>
    rw [hg] at hv
    simp only [Option.bind_some] at hv ⊢
    have hlt : g < w.heap.size := by
      rcases Nat.lt_or_ge g w.heap.size with h' | h'
      · exact h'
      · rw [Array.getElem?_eq_none h'] at hv; cases hv
    rw [h.block g hlt id]
    exact hv

/-- the tables that package trace and Itoa read -/
structure Glob (w : World) : Prop where
  words : ∀ k : Nat, k < 9 → w.cell? ⟨0, k, none⟩ = some (.string (strB (wordL k)))
  pow : Lib.TabIs Tryd.prog w "internal/strconv.uint64pow10" .u64 Lib.pow10Tab
theorem Glob.after {w w' : World} (h : Glob w) (k : Wrote Nil w w') : Glob w' :=
  ⟨fun j hj => k.old (h.words j hj), var_after (S := Nil) k h.pow⟩
theorem wrote_grow {w w' : World} (h : Wrote Nil w w') (os : Array Obj) : Wrote Nil w (Sort.grow w' os) :=
  ⟨h.os, h.tape, h.output, by rw [Sort.size_grow]; have := h.size; omega, fun k hk hn => by rw [Sort.heap_grow_old w' os (Nat.lt_of_lt_of_le hk h.size)]; exact h.block k hk hn⟩

theorem itoa_any {w : World} (hG : Glob w) (n : Int) (h0 : 0 ≤ n) (h1 : n ≤ 1099511627776) :
    Calls Tryd.prog 34 #[.int .i64 n] w fun e w' => e = .returned (.string (strB (Lib.decDigits n.toNat))) ∧ Wrote Nil w w' :=
  (Tryd.strconv_Itoa n (by omega) (by omega) w hG.pow).mono fun e w' ⟨he, k, os, hw⟩ => by
    refine ⟨?_, ?_⟩
    · rw [he, Lib.itoa, if_neg (by omega)]; rfl
    · rw [hw]; exact wrote_grow ((Wrote.refl Nil w).drewN k) os

/-! the reference -/
def wordsV : Array Value := #[.string ⟨#[]⟩, .string ⟨#[99, 97, 108, 108]⟩, .string ⟨#[101, 110, 113]⟩, .string ⟨#[97, 114, 114, 105, 118, 101]⟩, .string ⟨#[103, 114, 97, 110, 116]⟩, .string ⟨#[116, 105, 109, 101, 111, 117, 116]⟩, .string ⟨#[117, 110, 108, 111, 99, 107]⟩, .string ⟨#[114, 101, 116, 117, 114, 110]⟩, .string ⟨#[114, 101, 102, 117, 115, 101]⟩]
theorem rf_words (w : World) : Calls Tryd.prog 22 #[] w fun e w' => e = .returned (.agg wordsV) ∧ Wrote Nil w w' := by
  go_enter Tryd.func22, Tryd.ntmps22
  go_wp2
  refine bodyPost_ret (v := .agg wordsV) ?_ rfl ⟨rfl, (Wrote.refl _ _).alloc _⟩
  exact results_cell_row (P := Tryd.prog) rfl _ _ w.heap.size 52 wordsV (0, 0) _ rfl (heap_alloc_new _ _) Tryd.underlying52 rfl (by kernel_rfl)
theorem words_0 (W : World) : (Instr.index 52 (.agg wordsV) (.int .i64 0)).run Tryd.prog W = .ok (.string (strB (wordL 0))) W := by kernel_rfl
theorem words_1 (W : World) : (Instr.index 52 (.agg wordsV) (.int .i64 1)).run Tryd.prog W = .ok (.string (strB (wordL 1))) W := by kernel_rfl
theorem words_2 (W : World) : (Instr.index 52 (.agg wordsV) (.int .i64 2)).run Tryd.prog W = .ok (.string (strB (wordL 2))) W := by kernel_rfl
theorem words_3 (W : World) : (Instr.index 52 (.agg wordsV) (.int .i64 3)).run Tryd.prog W = .ok (.string (strB (wordL 3))) W := by kernel_rfl
theorem words_4 (W : World) : (Instr.index 52 (.agg wordsV) (.int .i64 4)).run Tryd.prog W = .ok (.string (strB (wordL 4))) W := by kernel_rfl
theorem words_5 (W : World) : (Instr.index 52 (.agg wordsV) (.int .i64 5)).run Tryd.prog W = .ok (.string (strB (wordL 5))) W := by kernel_rfl
theorem words_6 (W : World) : (Instr.index 52 (.agg wordsV) (.int .i64 6)).run Tryd.prog W = .ok (.string (strB (wordL 6))) W := by kernel_rfl
theorem words_7 (W : World) : (Instr.index 52 (.agg wordsV) (.int .i64 7)).run Tryd.prog W = .ok (.string (strB (wordL 7))) W := by kernel_rfl
theorem words_8 (W : World) : (Instr.index 52 (.agg wordsV) (.int .i64 8)).run Tryd.prog W = .ok (.string (strB (wordL 8))) W := by kernel_rfl
theorem words_at (k : Nat) (hk : k < 9) (W : World) : (Instr.index 52 (.agg wordsV) (.int .i64 k)).run Tryd.prog W = .ok (.string (strB (wordL k))) W := by
  have : k = 0 ∨ k = 1 ∨ k = 2 ∨ k = 3 ∨ k = 4 ∨ k = 5 ∨ k = 6 ∨ k = 7 ∨ k = 8 := by omega
  rcases this with rfl | rfl | rfl | rfl | rfl | rfl | rfl | rfl | rfl
  · exact words_0 W
  · exact words_1 W
  · exact words_2 W
  · exact words_3 W
  · exact words_4 W
  · exact words_5 W
  · exact words_6 W
  · exact words_7 W
  · exact words_8 W

theorem conv_one (z : Int) (W : World) (b : Nat) (hc : W.cell? ⟨b, 0, none⟩ = some (.int .u8 z)) :
    (convert 56 9 (.slice (some ⟨b, 0, none⟩) 1 1)).run Tryd.prog W = .ok (.string (strB [z.toNat.toUInt8])) W :=
  run_convert_bytes_arg W _ _ Tryd.underlying56 Tryd.underlying5 b 0 1 1 [z] rfl (fun i hi => by
    obtain rfl : i = 0 := by omega
    exact hc) _ Tryd.underlying9

theorem cell_new1 (w : World) (z : Int) : (w.alloc (.cells #[.int .u8 z] 5)).drew.cell? ⟨w.heap.size, 0, none⟩ = some (.int .u8 z) := by simp
set_option maxRecDepth 10000 in
set_option maxHeartbeats 1000000 in
theorem rf_digits (u : Nat) : ∀ (hu : u ≤ 1099511627776) (w : World),
    Calls Tryd.prog 23 #[.int .i64 u] w fun e w' => e = .returned (.string (strB (Lib.decDigits u))) ∧ Wrote Nil w w' := by
  induction u using Nat.strongRecOn with
  | ind u ih =>
    intro hu w
    by_cases h : u < 10
    · have h' : (u : Int) < 10 := by omega
      have hv : (48 + (u : Int)) % 256 = 48 + u := by omega
      have hc := conv_one (48 + u)
      have hs : strB [(48 + (u : Int)).toNat.toUInt8] = strB (Lib.decDigits u) := by
        rw [Lib.decDigits_one h, show (48 + (u : Int)).toNat = 48 + u by omega]
      rw [hs] at hc
      obtain ⟨sd, hsd⟩ : ∃ sd, sd = strB (Lib.decDigits u) := ⟨_, rfl⟩
      rw [← hsd] at hc ⊢
      clear hs hsd ih
      go_enter Tryd.func23, Tryd.ntmps23
      go_wp2
      go_ret
      exact ⟨rfl, (Wrote.refl _ _).alloc _⟩
    · have h' : decide ((u : Int) < 10) = false := by simp; omega
      have ih1 := ih (u / 10) (by omega) (by omega)
      have hq : (u : Int).tdiv 10 = ((u / 10 : Nat) : Int) := by rw [Int.tdiv_eq_ediv_of_nonneg (by omega)]; rfl
      have hr : (u : Int).tmod 10 = ((u % 10 : Nat) : Int) := by rw [Int.tmod_eq_emod_of_nonneg (by omega)]; rfl
      have hc := conv_one (48 + (u % 10 : Nat))
      have hs : strB [(48 + ((u % 10 : Nat) : Int)).toNat.toUInt8] = strB [UInt8.ofNat (48 + u % 10)] := by
        rw [show (48 + ((u % 10 : Nat) : Int)).toNat = 48 + u % 10 by omega]
      rw [hs] at hc
      have hl : (Lib.decDigits (u / 10)).length ≤ 13 := dec_len (k := 13) (by omega) (by omega)
      have ha := add_str (a := Lib.decDigits (u / 10)) (b := [UInt8.ofNat (48 + u % 10)]) (by simp; omega)
      rw [← dec_big h] at ha
      obtain ⟨sd, hsd⟩ : ∃ sd, sd = strB (Lib.decDigits (u / 10)) := ⟨_, rfl⟩
      obtain ⟨s1, hs1⟩ : ∃ s1, s1 = strB [UInt8.ofNat (48 + u % 10)] := ⟨_, rfl⟩
      obtain ⟨s2, hs2⟩ : ∃ s2, s2 = strB (Lib.decDigits u) := ⟨_, rfl⟩
      obtain ⟨r, hr0⟩ : ∃ r, r = u % 10 := ⟨_, rfl⟩
      obtain ⟨q, hq0⟩ : ∃ q, q = u / 10 := ⟨_, rfl⟩
      have hr9 : r < 10 := by omega
      have hq9 : q ≤ 1099511627776 := by omega
      rw [← hsd] at ih1 ha
      rw [← hs1] at hc ha
      rw [← hs2] at ha ⊢
      rw [← hr0] at hc hr
      rw [← hq0] at ih1 hq
      have w1 : IntKind.i64.wrap (q : Int) = q := IntWalk.i64_in _ (by omega)
      have w2 : IntKind.i64.wrap (48 + (r : Int)) = 48 + r := IntWalk.i64_in _ (by omega)
      have w3 : IntKind.u8.wrap (48 + (r : Int)) = 48 + r := by rw [IntKind.wrap_u8]; omega
      clear hs ih hsd hs1 hs2 hr0 hq0 h hl
      go_enter Tryd.func23, Tryd.ntmps23
      go_wp2
      go_region_with (first | (go_at_call 23; (with_reducible refine (ih1 _).mono ?_); rintro e w3 ⟨rfl, hW3⟩; have hk := hW3.old (cell_new1 w (48 + r))) | (go_at_call 23; (with_reducible refine (ih1 _).mono ?_); rintro e w3 ⟨rfl, hW3⟩))
      all_goals
        go_wp2
        go_ret
        first
          | exact ⟨rfl, (((Wrote.refl Nil w).drew).nil hW3).alloc _⟩
          | exact ⟨rfl, (((Wrote.refl Nil w).alloc _).drew).nil hW3⟩

/-- the world of a drawn statement, and what is kept since -/
structure Since (X w : World) : Prop where
  wrote : Wrote Nil X w
theorem Since.nil {X w w' : World} (h : Since X w) (k : Wrote Nil w w') : Since X w' := ⟨h.wrote.nil k⟩

set_option maxRecDepth 10000 in
set_option maxHeartbeats 2000000 in
theorem tr_line {w : World} (hG : Glob w) (k t n : Int) (ld : Bool) (hm : mayE ⟨k, t, n, ld⟩ = true) :
    Calls Tryd.prog 26 #[.agg #[.int .i64 k, .int .i64 t, .int .i64 n, .bool ld]] w fun e w' => e = .returned (.string (strB (lineE ⟨k, t, n, ld⟩))) ∧ Wrote Nil w w' := by
  rw [may_iff] at hm
  obtain ⟨h1, h2, h3, h4, h5, h6, h7⟩ := hm
  simp only at h1 h2 h3 h4 h5 h6 h7
  obtain ⟨kn, rfl⟩ : ∃ kn : Nat, k = kn := ⟨k.toNat, by omega⟩
  obtain ⟨a0, ha0⟩ : ∃ a0, a0 = wordL kn := ⟨_, rfl⟩
  obtain ⟨a1, ha1⟩ : ∃ a1, a1 = Lib.decDigits t.toNat := ⟨_, rfl⟩
  obtain ⟨a2, ha2⟩ : ∃ a2, a2 = Lib.decDigits n.toNat := ⟨_, rfl⟩
  have l0 : a0.length ≤ 8 := by rw [ha0]; unfold wordL; split <;> decide
  have l1 : a1.length ≤ 13 := by rw [ha1]; exact dec_len (k := 13) (by omega) (by omega)
  have l2 : a2.length ≤ 13 := by rw [ha2]; exact dec_len (k := 13) (by omega) (by omega)
  have f1 := add_str (a := a0) (b := [32]) (by simp; omega)
  have f2 := add_str (a := a0 ++ [32]) (b := a1) (by simp; omega)
  have f3 := add_str (a := (a0 ++ [32]) ++ a1) (b := [32]) (by simp; omega)
  have f4 := add_str (a := ((a0 ++ [32]) ++ a1) ++ [32]) (b := a2) (by simp; omega)
  obtain ⟨a3, ha3⟩ : ∃ a3, a3 = (((a0 ++ [32]) ++ a1) ++ [32]) ++ a2 := ⟨_, rfl⟩
  rw [← ha3] at f4
  have f5 := add_str (a := a3) (b := [32, 108, 101, 97, 100]) (by rw [ha3]; simp; omega)
  have f6 := add_str (a := a3 ++ [32, 108, 101, 97, 100]) (b := [10]) (by rw [ha3]; simp; omega)
  have f7 := add_str (a := a3) (b := [10]) (by rw [ha3]; simp; omega)
  have hE : strB (lineE ⟨kn, t, n, ld⟩) = if ld then strB (a3 ++ [32, 108, 101, 97, 100] ++ [10]) else strB (a3 ++ [10]) := by
    rw [ha3, ha0, ha1, ha2]
    cases ld <;> simp [lineE, lineL, leadL]
  rw [hE]
  have c0 : w.cell? ⟨0, kn, none⟩ = some (.string (strB a0)) := by rw [ha0]; exact hG.words kn (by omega)
  have c1 : ∀ W, Wrote Nil w W → Calls Tryd.prog 34 #[.int .i64 t] W fun e w' => e = .returned (.string (strB a1)) ∧ Wrote Nil W w' := fun W hW => by rw [ha1]; exact itoa_any (hG.after hW) t h3 (by omega)
  have c2 : ∀ W, Wrote Nil w W → Calls Tryd.prog 34 #[.int .i64 n] W fun e w' => e = .returned (.string (strB a2)) ∧ Wrote Nil W w' := fun W hW => by rw [ha2]; exact itoa_any (hG.after hW) n h5 h6
  rw [show strB [32] = ⟨#[32]⟩ from rfl] at f1 f3
  rw [show strB [32, 108, 101, 97, 100] = ⟨#[32, 108, 101, 97, 100]⟩ from rfl] at f5
  rw [show strB [10] = ⟨#[10]⟩ from rfl] at f6 f7
  generalize strB a0 = s0 at f1 c0
  generalize strB a1 = s1 at f2 c1
  generalize strB a2 = s2 at f4 c2
  generalize strB (a0 ++ [32]) = u1 at f1 f2
  generalize strB ((a0 ++ [32]) ++ a1) = u2 at f2 f3
  generalize strB (((a0 ++ [32]) ++ a1) ++ [32]) = u3 at f3 f4
  generalize strB a3 = u4 at f4 f5 f7
  generalize strB (a3 ++ [32, 108, 101, 97, 100]) = u5 at f5 f6
  generalize strB (a3 ++ [32, 108, 101, 97, 100] ++ [10]) = u6 at f6 ⊢
  generalize strB (a3 ++ [10]) = u7 at f7 ⊢
  have k9 : (kn : Int) < 9 := by omega
  have k0 : (0 : Int) ≤ kn := by omega
  clear ha0 ha1 ha2 ha3 l0 l1 l2 hE hG h7
  have HC := Lib.hid (And.intro c1 c2)
  clear c1 c2
  go_enter Tryd.func26, Tryd.ntmps26
  go_wp2
  have g0 : (w.alloc (.cells #[.int .i64 kn, .int .i64 t, .int .i64 n, .bool ld] 41)).cell? ⟨w.heap.size, 0, none⟩ = some (.int .i64 kn) := by simp
  have g1 : (w.alloc (.cells #[.int .i64 kn, .int .i64 t, .int .i64 n, .bool ld] 41)).cell? ⟨w.heap.size, 1, none⟩ = some (.int .i64 t) := by simp
  have g2 : (w.alloc (.cells #[.int .i64 kn, .int .i64 t, .int .i64 n, .bool ld] 41)).cell? ⟨w.heap.size, 2, none⟩ = some (.int .i64 n) := by simp
  have g3 : (w.alloc (.cells #[.int .i64 kn, .int .i64 t, .int .i64 n, .bool ld] 41)).cell? ⟨w.heap.size, 3, none⟩ = some (.bool ld) := by simp
  have hX : Wrote Nil w (w.alloc (.cells #[.int .i64 kn, .int .i64 t, .int .i64 n, .bool ld] 41)) := (Wrote.refl _ _).alloc _
  generalize w.heap.size = q at g0 g1 g2 g3 ⊢
  generalize w.alloc (.cells #[.int .i64 kn, .int .i64 t, .int .i64 n, .bool ld] 41) = X at g0 g1 g2 g3 hX ⊢
  have c0 := hX.old c0
  have hS : ∀ W, Since X W → (W.cell? ⟨q, 0, none⟩ = some (.int .i64 kn) ∧ W.cell? ⟨q, 1, none⟩ = some (.int .i64 t) ∧ W.cell? ⟨q, 2, none⟩ = some (.int .i64 n) ∧ W.cell? ⟨0, kn, none⟩ = some (.string s0) ∧ Since X W) := fun W h => ⟨h.wrote.old g0, h.wrote.old g1, h.wrote.old g2, h.wrote.old c0, h⟩
  have HS := Lib.hid hS
  have hI1 : ∀ W, Since X W → Calls Tryd.prog 34 #[.int .i64 t] W fun e w' => e = .returned (.string s1) ∧ Since X w' := fun W h => (HC.out.1 W (hX.nil h.wrote)).mono fun e w' h2 => ⟨h2.1, h.nil h2.2⟩
  have hI2 : ∀ W, Since X W → Calls Tryd.prog 34 #[.int .i64 n] W fun e w' => e = .returned (.string s2) ∧ Since X w' := fun W h => (HC.out.2 W (hX.nil h.wrote)).mono fun e w' h2 => ⟨h2.1, h.nil h2.2⟩
  have HI := Lib.hid (And.intro hI1 hI2)
  have HX := Lib.hid hX
  clear hS hI1 hI2 HC hX
  go_region_held3 (fun W => W.cell? ⟨q, 0, none⟩ = some (.int .i64 kn) ∧ W.cell? ⟨q, 1, none⟩ = some (.int .i64 t) ∧ W.cell? ⟨q, 2, none⟩ = some (.int .i64 n) ∧ W.cell? ⟨0, kn, none⟩ = some (.string s0) ∧ Since X W) (first | exact HS.out _ hA | exact HS.out _ ⟨(Wrote.refl Nil X).drew⟩)
    (first | (go_at_call 34; (with_reducible refine (HI.out.1 _ (by go_split_ands; assumption)).mono ?_); rintro e w3 ⟨rfl, hA⟩) | (go_at_call 34; (with_reducible refine (HI.out.2 _ (by go_split_ands; assumption)).mono ?_); rintro e w3 ⟨rfl, hA⟩))
  all_goals
    have g3 := hA.wrote.old g3
    have HA := Lib.hid hA
    clear hA
    cases ld
    all_goals
      go_wp2
      go_ret
      exact ⟨rfl, HX.out.nil HA.out.wrote⟩
end Go.Proofs.YtihlokhejopphaaDoor
