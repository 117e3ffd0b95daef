/- The contracts of package trace's right and Count, and of the reference's May. -/
import Derived.Test.YtihlokhejopphaaDoorTrParse
import Derived.Test.YtihlokhejopphaaDoorGrow
import Derived.Test.YtihlokhejopphaaDoorRows
import Derived.WalkLawsBesides
import Derived.Outline
import Derived.Deep.QuietTactic
import Derived.Handy
import Derived.OpenShut
import Derived.Lib.Walk
import Derived.WalkKit
import Derived.Laws.ResultCell
import Derived.Laws.StructEq
import Derived.Lib.Hide
import Derived.Deep.RegionLaw
import Derived.Deep.LoopGhost
import Derived.BigQuiet
import Derived.BigFrame
namespace Go.Proofs.YtihlokhejopphaaDoor
open Go.RowKit
set_option linter.unusedVariables false

theorem ret_truth {a b : Bool} (h : a = b) : Ending.returned (.bool a) = .returned (.bool b) := by rw [h]
theorem ret_i64 {a b : Int} (h : a = b) : Ending.returned (.int .i64 a) = .returned (.int .i64 b) := by rw [h]
/-- the cells of an entry, and of the reference's -/
def eC (e : Ent) : List Value := [.int .i64 e.k, .int .i64 e.t, .int .i64 e.n, .bool e.ld]
def ldI (b : Bool) : Int := if b then 1 else 0
def rC (e : Ent) : List Value := [.int .i64 e.k, .int .i64 e.t, .int .i64 e.n, .int .i64 (ldI e.ld)]
theorem eC_ne (e : Ent) : eC e ≠ [] := by simp [eC]
theorem rC_ne (e : Ent) : rC e ≠ [] := by simp [rC]
theorem eC_len (e : Ent) : (eC e).length = 4 := rfl
theorem rC_len (e : Ent) : (rC e).length = 4 := rfl
theorem eC_one (e : Ent) : ∀ u ∈ eC e, u.oneCell' = true := by intro u hu; simp only [eC, List.mem_cons, List.mem_nil_iff, or_false] at hu; rcases hu with rfl | rfl | rfl | rfl <;> rfl
theorem rC_one (e : Ent) : ∀ u ∈ rC e, u.oneCell' = true := by intro u hu; simp only [rC, List.mem_cons, List.mem_nil_iff, or_false] at hu; rcases hu with rfl | rfl | rfl | rfl <;> rfl
theorem info_en : (Tryd.prog.info? 41).map (fun i => (i.zero, i.size, i.bytes)) = some (some (.agg #[.int .i64 0, .int .i64 0, .int .i64 0, .bool false]), 4, 32) := by kernel_rfl
theorem info_rn : (Tryd.prog.info? 27).map (fun i => (i.zero, i.size, i.bytes)) = some (some (.agg #[.int .i64 0, .int .i64 0, .int .i64 0, .int .i64 0]), 4, 32) := by kernel_rfl

theorem cells_e {b o : Nat} {w : World} {D : List Ent} (hc : ∀ (k : Nat) (x : Ent), D[k]? = some x → ∀ (j : Nat) (u : Value), (eC x)[j]? = some u → w.cell? ⟨b, o + (k * 4 + j), none⟩ = some u) {k : Nat} {x0 x1 x2 : Int} {x3 : Bool} (hx : D[k]? = some ⟨x0, x1, x2, x3⟩) :
    w.cell? ⟨b, o + k * 4, none⟩ = some (.int .i64 x0) ∧ w.cell? ⟨b, o + k * 4 + 1, none⟩ = some (.int .i64 x1) ∧ w.cell? ⟨b, o + k * 4 + 2, none⟩ = some (.int .i64 x2) ∧ w.cell? ⟨b, o + k * 4 + 3, none⟩ = some (.bool x3) :=
  ⟨hc k _ hx 0 _ rfl, hc k _ hx 1 _ rfl, hc k _ hx 2 _ rfl, hc k _ hx 3 _ rfl⟩
theorem cells_r {b o : Nat} {w : World} {D : List Ent} (hc : ∀ (k : Nat) (x : Ent), D[k]? = some x → ∀ (j : Nat) (u : Value), (rC x)[j]? = some u → w.cell? ⟨b, o + (k * 4 + j), none⟩ = some u) {k : Nat} {x0 x1 x2 : Int} {x3 : Bool} (hx : D[k]? = some ⟨x0, x1, x2, x3⟩) :
    w.cell? ⟨b, o + k * 4, none⟩ = some (.int .i64 x0) ∧ w.cell? ⟨b, o + k * 4 + 1, none⟩ = some (.int .i64 x1) ∧ w.cell? ⟨b, o + k * 4 + 2, none⟩ = some (.int .i64 x2) ∧ w.cell? ⟨b, o + k * 4 + 3, none⟩ = some (.int .i64 (ldI x3)) :=
  ⟨hc k _ hx 0 _ rfl, hc k _ hx 1 _ rfl, hc k _ hx 2 _ rfl, hc k _ hx 3 _ rfl⟩

theorem may_cases (k t n : Int) (ld : Bool) : (mayE ⟨k, t, n, ld⟩ = false ∧ (k < 1 ∨ (1 ≤ k ∧ 8 < k) ∨ (1 ≤ k ∧ k ≤ 8 ∧ t < 0) ∨ (1 ≤ k ∧ k ≤ 8 ∧ 0 ≤ t ∧ 63 < t) ∨ (1 ≤ k ∧ k ≤ 8 ∧ 0 ≤ t ∧ t ≤ 63 ∧ n < 0) ∨ (1 ≤ k ∧ k ≤ 8 ∧ 0 ≤ t ∧ t ≤ 63 ∧ 0 ≤ n ∧ 1099511627776 < n) ∨ (1 ≤ k ∧ k ≤ 8 ∧ 0 ≤ t ∧ t ≤ 63 ∧ 0 ≤ n ∧ n ≤ 1099511627776 ∧ ld = true ∧ k ≠ 4))) ∨
    (mayE ⟨k, t, n, ld⟩ = true ∧ 1 ≤ k ∧ k ≤ 8 ∧ 0 ≤ t ∧ t ≤ 63 ∧ 0 ≤ n ∧ n ≤ 1099511627776 ∧ (ld = false ∨ (ld = true ∧ k = 4))) := by
  have h := may_iff ⟨k, t, n, ld⟩
  simp only at h
  cases hm : mayE ⟨k, t, n, ld⟩ with
  | true =>
    rw [hm] at h
    obtain ⟨h1, h2, h3, h4, h5, h6, h7⟩ := h.1 rfl
    refine .inr ⟨rfl, h1, h2, h3, h4, h5, h6, ?_⟩
    cases ld with
    | false => exact .inl rfl
    | true => exact .inr ⟨rfl, h7 rfl⟩
  | false =>
    rw [hm] at h
    refine .inl ⟨rfl, ?_⟩
    cases ld with
    | false =>
      have : ¬ (1 ≤ k ∧ k ≤ 8 ∧ 0 ≤ t ∧ t ≤ 63 ∧ 0 ≤ n ∧ n ≤ 1099511627776) := fun hh => by
        have := h.2 ⟨hh.1, hh.2.1, hh.2.2.1, hh.2.2.2.1, hh.2.2.2.2.1, hh.2.2.2.2.2, by simp⟩
        cases this
      omega
    | true =>
      have : ¬ (1 ≤ k ∧ k ≤ 8 ∧ 0 ≤ t ∧ t ≤ 63 ∧ 0 ≤ n ∧ n ≤ 1099511627776 ∧ k = 4) := fun hh => by
        have := h.2 ⟨hh.1, hh.2.1, hh.2.2.1, hh.2.2.2.1, hh.2.2.2.2.1, hh.2.2.2.2.2.1, fun _ => hh.2.2.2.2.2.2⟩
        cases this
      simp only [true_and]
      omega

set_option maxHeartbeats 2000000 in
theorem tr_right (w : World) (k t n : Int) (ld : Bool) :
    Calls Tryd.prog 24 #[.agg #[.int .i64 k, .int .i64 t, .int .i64 n, .bool ld]] w fun e w' => e = .returned (.bool (mayE ⟨k, t, n, ld⟩)) ∧ Wrote Nil w w' := by
  have hc := may_cases k t n ld
  obtain ⟨R, hR⟩ : ∃ R, R = mayE ⟨k, t, n, ld⟩ := ⟨_, rfl⟩
  rw [← hR] at hc ⊢
  clear hR
  rcases hc with ⟨hf, hc⟩ | ⟨hf, h1, h2, h3, h4, h5, h6, hc⟩
  · have HF := Lib.hid hf
    clear hf
    rcases hc with q | ⟨h1, q⟩ | ⟨h1, h2, q⟩ | ⟨h1, h2, h3, q⟩ | ⟨h1, h2, h3, h4, q⟩ | ⟨h1, h2, h3, h4, h5, q⟩ | ⟨h1, h2, h3, h4, h5, h6, rfl, q⟩
    · have q' : decide (1 ≤ k) = false := by simpa using q
      clear q
      go_enter Tryd.func24, Tryd.ntmps24
      go_wp2
      go_ret
      exact ⟨ret_truth HF.out.symm, (Wrote.refl _ _).alloc _⟩
    · have q' : decide (k ≤ 8) = false := by simpa using q
      clear q
      go_enter Tryd.func24, Tryd.ntmps24
      go_wp2
      go_ret
      exact ⟨ret_truth HF.out.symm, (Wrote.refl _ _).alloc _⟩
    · have q' : decide (0 ≤ t) = false := by simpa using q
      clear q
      go_enter Tryd.func24, Tryd.ntmps24
      go_wp2
      go_ret
      exact ⟨ret_truth HF.out.symm, (Wrote.refl _ _).alloc _⟩
    · have q' : decide (t ≤ 63) = false := by simpa using q
      clear q
      go_enter Tryd.func24, Tryd.ntmps24
      go_wp2
      go_ret
      exact ⟨ret_truth HF.out.symm, (Wrote.refl _ _).alloc _⟩
    · have q' : decide (0 ≤ n) = false := by simpa using q
      clear q
      go_enter Tryd.func24, Tryd.ntmps24
      go_wp2
      go_ret
      exact ⟨ret_truth HF.out.symm, (Wrote.refl _ _).alloc _⟩
    · have q' : decide (n ≤ 1099511627776) = false := by simpa using q
      clear q
      go_enter Tryd.func24, Tryd.ntmps24
      go_wp2
      go_ret
      exact ⟨ret_truth HF.out.symm, (Wrote.refl _ _).alloc _⟩
    · have q' : ((k : Int) == 4) = false := by simpa using q
      clear q
      go_enter Tryd.func24, Tryd.ntmps24
      go_wp2
      go_ret
      exact ⟨ret_truth HF.out.symm, (Wrote.refl _ _).alloc _⟩
  · have HF := Lib.hid hf
    clear hf
    rcases hc with rfl | ⟨rfl, rfl⟩
    · go_enter Tryd.func24, Tryd.ntmps24
      go_wp2
      go_ret
      exact ⟨ret_truth HF.out.symm, (Wrote.refl _ _).alloc _⟩
    · go_enter Tryd.func24, Tryd.ntmps24
      go_wp2
      go_ret
      exact ⟨ret_truth HF.out.symm, (Wrote.refl _ _).alloc _⟩

set_option maxHeartbeats 2000000 in
theorem rf_may (w : World) (k t n : Int) (ld : Bool) :
    Calls Tryd.prog 10 #[.agg #[.int .i64 k, .int .i64 t, .int .i64 n, .int .i64 (ldI ld)]] w fun e w' => e = .returned (.bool (mayE ⟨k, t, n, ld⟩)) ∧ Wrote Nil w w' := by
  have hc := may_cases k t n ld
  obtain ⟨R, hR⟩ : ∃ R, R = mayE ⟨k, t, n, ld⟩ := ⟨_, rfl⟩
  rw [← hR] at hc ⊢
  clear hR
  rcases hc with ⟨hf, hc⟩ | ⟨hf, h1, h2, h3, h4, h5, h6, hc⟩
  · have HF := Lib.hid hf
    clear hf
    rcases hc with q | ⟨h1, q⟩ | ⟨h1, h2, q⟩ | ⟨h1, h2, h3, q⟩ | ⟨h1, h2, h3, h4, q⟩ | ⟨h1, h2, h3, h4, h5, q⟩ | ⟨h1, h2, h3, h4, h5, h6, rfl, q⟩
    · go_enter Tryd.func10, Tryd.ntmps10
      go_wp2
      go_ret
      exact ⟨ret_truth HF.out.symm, (Wrote.refl _ _).alloc _⟩
    · have q' : decide (k < 1) = false := by simpa using h1
      go_enter Tryd.func10, Tryd.ntmps10
      go_wp2
      go_ret
      exact ⟨ret_truth HF.out.symm, (Wrote.refl _ _).alloc _⟩
    · have q' : decide (k < 1) = false := by simpa using h1
      have q2 : decide (8 < k) = false := by simpa using h2
      go_enter Tryd.func10, Tryd.ntmps10
      go_wp2
      go_ret
      exact ⟨ret_truth HF.out.symm, (Wrote.refl _ _).alloc _⟩
    · have q' : decide (k < 1) = false := by simpa using h1
      have q2 : decide (8 < k) = false := by simpa using h2
      have q3 : decide (t < 0) = false := by simpa using h3
      go_enter Tryd.func10, Tryd.ntmps10
      go_wp2
      go_ret
      exact ⟨ret_truth HF.out.symm, (Wrote.refl _ _).alloc _⟩
    · have q' : decide (k < 1) = false := by simpa using h1
      have q2 : decide (8 < k) = false := by simpa using h2
      have q3 : decide (t < 0) = false := by simpa using h3
      have q4 : decide (63 < t) = false := by simpa using h4
      go_enter Tryd.func10, Tryd.ntmps10
      go_wp2
      go_ret
      exact ⟨ret_truth HF.out.symm, (Wrote.refl _ _).alloc _⟩
    · have q' : decide (k < 1) = false := by simpa using h1
      have q2 : decide (8 < k) = false := by simpa using h2
      have q3 : decide (t < 0) = false := by simpa using h3
      have q4 : decide (63 < t) = false := by simpa using h4
      have q5 : decide (n < 0) = false := by simpa using h5
      go_enter Tryd.func10, Tryd.ntmps10
      go_wp2
      go_ret
      exact ⟨ret_truth HF.out.symm, (Wrote.refl _ _).alloc _⟩
    · have q' : decide (k < 1) = false := by simpa using h1
      have q2 : decide (8 < k) = false := by simpa using h2
      have q3 : decide (t < 0) = false := by simpa using h3
      have q4 : decide (63 < t) = false := by simpa using h4
      have q5 : decide (n < 0) = false := by simpa using h5
      have q6 : decide (1099511627776 < n) = false := by simpa using h6
      have q7 : ((k : Int) == 4) = false := by simpa using q
      clear q
      rw [show ldI true = 1 from rfl]
      go_enter Tryd.func10, Tryd.ntmps10
      go_wp2
      go_ret
      exact ⟨ret_truth HF.out.symm, (Wrote.refl _ _).alloc _⟩
  · have HF := Lib.hid hf
    clear hf
    have q' : decide (k < 1) = false := by simpa using h1
    have q2 : decide (8 < k) = false := by simpa using h2
    have q3 : decide (t < 0) = false := by simpa using h3
    have q4 : decide (63 < t) = false := by simpa using h4
    have q5 : decide (n < 0) = false := by simpa using h5
    have q6 : decide (1099511627776 < n) = false := by simpa using h6
    rcases hc with rfl | ⟨rfl, rfl⟩
    · rw [show ldI false = 0 from rfl]
      go_enter Tryd.func10, Tryd.ntmps10
      go_wp2
      go_ret
      exact ⟨ret_truth HF.out.symm, (Wrote.refl _ _).alloc _⟩
    · rw [show ldI true = 1 from rfl]
      clear q' q2
      go_enter Tryd.func10, Tryd.ntmps10
      go_wp2
      go_ret
      exact ⟨ret_truth HF.out.symm, (Wrote.refl _ _).alloc _⟩

/-- how many entries are of a kind -/
def cntE (D : List Ent) (c : Int) : Nat := D.countP fun e => e.k == c
theorem cnt_step (D : List Ent) (c : Int) {k : Nat} {x : Ent} (hx : D[k]? = some x) : cntE (D.take (k + 1)) c = cntE (D.take k) c + if x.k == c then 1 else 0 := by
  have hk := (List.getElem?_eq_some_iff.1 hx).1
  have he := (List.getElem?_eq_some_iff.1 hx).2
  unfold cntE
  rw [List.take_succ_eq_append_getElem hk, List.countP_append, he]
  simp [List.countP_cons]
theorem cnt_le (D : List Ent) (c : Int) (k : Nat) : cntE (D.take k) c ≤ k := by
  have h1 : cntE (D.take k) c ≤ (D.take k).length := List.countP_le_length
  have h2 : (D.take k).length ≤ k := by rw [List.length_take]; omega
  omega

set_option maxHeartbeats 1000000 in
theorem tr_count {w : World} {sa : Option Addr} {n cap : Nat} {D : List Ent} (h : RecsAt eC 4 w sa n D) (hn : n ≤ 1000) (c : Int) :
    Calls Tryd.prog 18 #[.slice sa n cap, .int .i64 c] w fun e w' => e = .returned (.int .i64 (cntE D c : Nat)) ∧ Wrote Nil w w' := by
  have hl := h.len
  have H := Lib.hid (And.intro h hl)
  clear h hl
  go_enter Tryd.func18, Tryd.ntmps18
  go_wp2
  go_loopw [5, 10] (fun cv iv wr => ∃ (k m : Nat), k ≤ n ∧ iv = .int .i64 k ∧ cv = .int .i64 (m : Nat) ∧ Hid (m = cntE (D.take k) c) ∧ m ≤ k ∧ Wrote Nil w wr) (fun _ iv _ => n - (intOf iv).toNat)
  case atStart => exact ⟨0, 0, Nat.zero_le _, rfl, rfl, Lib.hid (by simp [cntE]), Nat.le_refl _, Wrote.refl _ _⟩
  case round =>
    obtain ⟨k, m, hk, rfl, rfl, hm, hmk, hW⟩ := hrel
    by_cases hlt : k < n
    · have hlt' : (k : Int) < n := by omega
      have k0 : (0 : Int) ≤ k := by omega
      obtain ⟨⟨x0, x1, x2, x3⟩, hx⟩ : ∃ x, D[k]? = some x := ⟨D[k]'(by rw [H.out.2]; exact hlt), List.getElem?_eq_getElem _⟩
      rcases (H.out.1.after hW).at eC_ne with h0 | ⟨b, o, rfl, hc⟩
      · omega
      obtain ⟨e0, e1, e2, e3⟩ := cells_e hc hx
      have hstep := cnt_step D c hx
      have HS := Lib.hid (And.intro hstep hW)
      clear hc hx hstep hW
      by_cases hk2 : x0 = c
      · have hk3 : ((x0 : Int) == c) = true := by simpa using hk2
        have HK := Lib.hid hk3
        subst hk2
        go_wp2
        exact ⟨⟨k + 1, m + 1, by omega, by simp, by simp, Lib.hid (by have := HS.out.1; simp only [HK.out, if_true] at this; rw [this, ← hm.out]), by omega, (HS.out.2.alloc _)⟩, by simp [intOf]; omega⟩
      · have hk3 : ((x0 : Int) == c) = false := by simpa using hk2
        have HK := Lib.hid hk3
        clear hk2
        go_wp2
        exact ⟨⟨k + 1, m, by omega, by simp, rfl, Lib.hid (by have := HS.out.1; simp only [HK.out, Bool.false_eq_true, if_false, Nat.add_zero] at this; rw [this, ← hm.out]), by omega, (HS.out.2.alloc _)⟩, by simp [intOf]; omega⟩
    · obtain rfl : k = n := by omega
      have hE : m = cntE D c := by rw [hm.out, List.take_of_length_le (by rw [H.out.2]; exact Nat.le_refl _)]
      have HE := Lib.hid hE
      clear hE
      go_wp2
      go_ret
      exact ⟨ret_i64 (by rw [HE.out]), hW⟩
end Go.Proofs.YtihlokhejopphaaDoor
