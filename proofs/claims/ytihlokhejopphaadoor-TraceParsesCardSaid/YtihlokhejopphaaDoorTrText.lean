/- The contracts of package trace's Text, of the reference's Line, and of the law's example. -/
import Derived.Test.YtihlokhejopphaaDoorTrLine
namespace Go.Proofs.YtihlokhejopphaaDoor
open Go.RowKit
set_option linter.unusedVariables false

set_option maxRecDepth 10000 in
set_option maxHeartbeats 2000000 in
theorem rf_line (w : World) (k t n : Int) (ld : Bool) (hm : mayE ⟨k, t, n, ld⟩ = true) :
    Calls Tryd.prog 11 #[.agg #[.int .i64 k, .int .i64 t, .int .i64 n, .int .i64 (ldI ld)]] w fun e w' => e = .returned (.string (strB (lineL ⟨k, t, n, ld⟩))) ∧ Wrote Nil w w' := by
  rw [may_iff] at hm
  obtain ⟨h1, h2, h3, h4, h5, h6, h7⟩ := hm
  simp only at h1 h2 h3 h4 h5 h6 h7
  obtain ⟨kn, rfl⟩ : ∃ kn : Nat, k = kn := ⟨k.toNat, by omega⟩
  obtain ⟨tn, rfl⟩ : ∃ kn : Nat, t = kn := ⟨t.toNat, by omega⟩
  obtain ⟨nn, rfl⟩ : ∃ kn : Nat, n = kn := ⟨n.toNat, by omega⟩
  obtain ⟨a0, ha0⟩ : ∃ a0, a0 = wordL kn := ⟨_, rfl⟩
  obtain ⟨a1, ha1⟩ : ∃ a1, a1 = Lib.decDigits tn := ⟨_, rfl⟩
  obtain ⟨a2, ha2⟩ : ∃ a2, a2 = Lib.decDigits nn := ⟨_, rfl⟩
  have l0 : a0.length ≤ 8 := by rw [ha0]; unfold wordL; split <;> decide
  have l1 : a1.length ≤ 13 := by rw [ha1]; exact dec_len (k := 13) (by omega) (by omega)
  have l2 : a2.length ≤ 13 := by rw [ha2]; exact dec_len (k := 13) (by omega) (by omega)
  have f1 := add_str (a := a0) (b := [32]) (by simp; omega)
  have f2 := add_str (a := a0 ++ [32]) (b := a1) (by simp; omega)
  have f3 := add_str (a := (a0 ++ [32]) ++ a1) (b := [32]) (by simp; omega)
  have f4 := add_str (a := ((a0 ++ [32]) ++ a1) ++ [32]) (b := a2) (by simp; omega)
  obtain ⟨a3, ha3⟩ : ∃ a3, a3 = (((a0 ++ [32]) ++ a1) ++ [32]) ++ a2 := ⟨_, rfl⟩
  rw [← ha3] at f4
  have f5 := add_str (a := a3) (b := [32, 108, 101, 97, 100]) (by rw [ha3]; simp; omega)
  have hE : strB (lineL ⟨kn, tn, nn, ld⟩) = if ld then strB (a3 ++ [32, 108, 101, 97, 100]) else strB a3 := by
    rw [ha3, ha0, ha1, ha2]
    cases ld <;> simp [lineL, leadL]
  rw [hE]
  have c0 := words_at kn (by omega)
  rw [← ha0] at c0
  have c1 : ∀ W, Calls Tryd.prog 23 #[.int .i64 tn] W fun e w' => e = .returned (.string (strB a1)) ∧ Wrote Nil W w' := fun W => by rw [ha1]; exact rf_digits tn (by omega) W
  have c2 : ∀ W, Calls Tryd.prog 23 #[.int .i64 nn] W fun e w' => e = .returned (.string (strB a2)) ∧ Wrote Nil W w' := fun W => by rw [ha2]; exact rf_digits nn (by omega) W
  have c3 := rf_words
  rw [show strB [32] = ⟨#[32]⟩ from rfl] at f1 f3
  rw [show strB [32, 108, 101, 97, 100] = ⟨#[32, 108, 101, 97, 100]⟩ from rfl] at f5
  generalize wordsV = wv at c0 c3
  generalize strB a0 = s0 at f1 c0
  generalize strB a1 = s1 at f2 c1
  generalize strB a2 = s2 at f4 c2
  generalize strB (a0 ++ [32]) = u1 at f1 f2
  generalize strB ((a0 ++ [32]) ++ a1) = u2 at f2 f3
  generalize strB (((a0 ++ [32]) ++ a1) ++ [32]) = u3 at f3 f4
  generalize strB (a3 ++ [32, 108, 101, 97, 100]) = u5 at f5 ⊢
  generalize strB a3 = u4 at f4 f5 ⊢
  have hld : ((ldI ld : Int) == 1) = ld := by cases ld <;> rfl
  obtain ⟨lv, hlv⟩ : ∃ lv, lv = ldI ld := ⟨_, rfl⟩
  rw [← hlv] at hld ⊢
  clear ha0 ha1 ha2 ha3 l0 l1 l2 hE h7 hlv
  go_enter Tryd.func11, Tryd.ntmps11
  go_wp2
  have g0 : (w.alloc (.cells #[.int .i64 kn, .int .i64 tn, .int .i64 nn, .int .i64 lv] 27)).cell? ⟨w.heap.size, 0, none⟩ = some (.int .i64 kn) := by simp
  have g1 : (w.alloc (.cells #[.int .i64 kn, .int .i64 tn, .int .i64 nn, .int .i64 lv] 27)).cell? ⟨w.heap.size, 1, none⟩ = some (.int .i64 tn) := by simp
  have g2 : (w.alloc (.cells #[.int .i64 kn, .int .i64 tn, .int .i64 nn, .int .i64 lv] 27)).cell? ⟨w.heap.size, 2, none⟩ = some (.int .i64 nn) := by simp
  have g3 : (w.alloc (.cells #[.int .i64 kn, .int .i64 tn, .int .i64 nn, .int .i64 lv] 27)).cell? ⟨w.heap.size, 3, none⟩ = some (.int .i64 lv) := by simp
  have hX : Wrote Nil w (w.alloc (.cells #[.int .i64 kn, .int .i64 tn, .int .i64 nn, .int .i64 lv] 27)) := (Wrote.refl _ _).alloc _
  generalize w.heap.size = q at g0 g1 g2 g3 ⊢
  generalize w.alloc (.cells #[.int .i64 kn, .int .i64 tn, .int .i64 nn, .int .i64 lv] 27) = X at g0 g1 g2 g3 hX ⊢
  have hS : ∀ W, Since X W → (W.cell? ⟨q, 0, none⟩ = some (.int .i64 kn) ∧ W.cell? ⟨q, 1, none⟩ = some (.int .i64 tn) ∧ W.cell? ⟨q, 2, none⟩ = some (.int .i64 nn) ∧ Since X W) := fun W h => ⟨h.wrote.old g0, h.wrote.old g1, h.wrote.old g2, h⟩
  have HS := Lib.hid hS
  have hI1 : ∀ W, Since X W → Calls Tryd.prog 23 #[.int .i64 tn] W fun e w' => e = .returned (.string s1) ∧ Since X w' := fun W h => (c1 W).mono fun e w' h2 => ⟨h2.1, h.nil h2.2⟩
  have hI2 : ∀ W, Since X W → Calls Tryd.prog 23 #[.int .i64 nn] W fun e w' => e = .returned (.string s2) ∧ Since X w' := fun W h => (c2 W).mono fun e w' h2 => ⟨h2.1, h.nil h2.2⟩
  have hI3 : ∀ W, Since X W → Calls Tryd.prog 22 #[] W fun e w' => e = .returned (.agg wv) ∧ Since X w' := fun W h => (c3 W).mono fun e w' h2 => ⟨h2.1, h.nil h2.2⟩
  have HI := Lib.hid (And.intro hI1 (And.intro hI2 hI3))
  have HX := Lib.hid hX
  clear hS hI1 hI2 hI3 c1 c2 c3 hX
  go_region_held3 (fun W => W.cell? ⟨q, 0, none⟩ = some (.int .i64 kn) ∧ W.cell? ⟨q, 1, none⟩ = some (.int .i64 tn) ∧ W.cell? ⟨q, 2, none⟩ = some (.int .i64 nn) ∧ Since X W) (first | exact HS.out _ hA | exact HS.out _ ⟨(Wrote.refl Nil X).drew⟩)
    (first | (go_at_call 23; (with_reducible refine (HI.out.1 _ (by go_split_ands; assumption)).mono ?_); rintro e w3 ⟨rfl, hA⟩) | (go_at_call 23; (with_reducible refine (HI.out.2.1 _ (by go_split_ands; assumption)).mono ?_); rintro e w3 ⟨rfl, hA⟩) | (go_at_call 22; (with_reducible refine (HI.out.2.2 _ (by go_split_ands; assumption)).mono ?_); rintro e w3 ⟨rfl, hA⟩))
  all_goals
    have g3 := hA.wrote.old g3
    have HA := Lib.hid hA
    clear hA
    cases ld
    all_goals
      go_wp2
      go_ret
      exact ⟨rfl, HX.out.nil HA.out.wrote⟩

/-! Text -/
def allM (D : List Ent) : Bool := D.all mayE
theorem allM_iff (D : List Ent) : allM D = true ↔ ∀ e ∈ D, mayE e = true := List.all_eq_true
theorem allM_step {D : List Ent} {k : Nat} {x : Ent} (hx : D[k]? = some x) (h : allM (D.take k) = true) (hm : mayE x = true) : allM (D.take (k + 1)) = true := by
  have hk := (List.getElem?_eq_some_iff.1 hx).1
  have he := (List.getElem?_eq_some_iff.1 hx).2
  unfold allM at h ⊢
  rw [List.take_succ_eq_append_getElem hk, List.all_append, h, he]
  simp [hm]
theorem allM_not {D : List Ent} {k : Nat} {x : Ent} (hx : D[k]? = some x) (hm : mayE x = false) : allM D = false := by
  rw [Bool.eq_false_iff]
  intro h
  rw [allM_iff] at h
  have := h x (List.mem_of_getElem? hx)
  rw [hm] at this
  cases this
theorem textOf_step {D : List Ent} {k : Nat} {x : Ent} (hx : D[k]? = some x) : textOf (D.take (k + 1)) = textOf (D.take k) ++ lineE x := by
  have hk := (List.getElem?_eq_some_iff.1 hx).1
  have he := (List.getElem?_eq_some_iff.1 hx).2
  rw [List.take_succ_eq_append_getElem hk, textOf_append, he]
  simp [textOf]
/-- what Text answers -/
def txtS (D : List Ent) : ByteArray := if allM D then strB (textOf D) else ⟨#[]⟩
def txtE (D : List Ent) : Int := if allM D then 0 else 4
def TextPost (w : World) (D : List Ent) (e : Ending) (w' : World) : Prop :=
  e = .returned (.tuple #[.string (txtS D), .int .i64 (txtE D)]) ∧ Wrote Nil w w'

/-- the builder of a call -/
def BufAt (b : Nat) (l : List UInt8) (w : World) : Prop := Lib.IsBuilderF 58 5 b b (Lib.byteCells l) w
theorem bufF_after {p : Value} {b : Nat} {bs : List Value} {w w' : World} (h : Lib.BuilderAtF 58 5 b b p bs w) (k : Wrote Nil w w') : Lib.BuilderAtF 58 5 b b p bs w' := by
  obtain ⟨hb, v, hc, ho, hne⟩ := h
  refine ⟨hb, v, (k.block b (blk_lt hc) id).trans hc, ?_, hne⟩
  refine ⟨ho.1, ?_⟩
  rcases ho.2 with hn | ⟨g, cap, cur, fz, rfl, hbb, hg, rest⟩
  · exact .inl hn
  · exact .inr ⟨g, cap, cur, fz, rfl, hbb, (k.block g (blk_lt hg) id).trans hg, rest⟩
theorem BufAt.after {b : Nat} {l : List UInt8} {w w' : World} (h : BufAt b l w) (k : Wrote Nil w w') : BufAt b l w' := h.imp (fun x => bufF_after x k) (fun x => bufF_after x k)
theorem buf_write {w0 w : World} {b : Nat} {l m : List UInt8} (h : BufAt b l w) (hb : b = w0.heap.size) (hW : Wrote Nil w0 w) (hl : l.length + m.length ≤ 1000000) :
    Calls Tryd.prog 25 #[.pointer (some ⟨b, 0, none⟩), .string (strB m)] w fun e w' => (∃ x : Int, e = .returned (.tuple #[.int .i64 x, .nilIface])) ∧ BufAt b (l ++ m) w' ∧ Wrote Nil w0 w' :=
  (Tryd.Builder_WriteString_k b b (Lib.byteCells l) (strB m) w h (by rw [Lib.byteCells_length, strB_size]; omega) (by rw [hb]; exact hW.size)).mono fun e w' ⟨he, hB, hL, _⟩ =>
    ⟨⟨_, he⟩, .inr (by rw [Lib.strCells_eq, strB_data, ← Lib.byteCells_append] at hB; exact hB), ⟨hL.os.trans hW.os, hL.tape.trans hW.tape, hL.output.trans hW.output, Nat.le_trans hW.size hL.size, fun k hk hn => (hL.block k (by omega)).trans (hW.block k hk hn)⟩⟩
theorem buf_string {w0 w : World} {b : Nat} {l : List UInt8} (h : BufAt b l w) (hb : b = w0.heap.size) (hW : Wrote Nil w0 w) :
    Calls Tryd.prog 27 #[.pointer (some ⟨b, 0, none⟩)] w fun e w' => e = .returned (.string (strB l)) ∧ Wrote Nil w0 w' :=
  (Tryd.Builder_String_any_f b b l w h (by rw [hb]; exact hW.size)).mono fun e w' ⟨he, _, hL⟩ =>
    ⟨he, ⟨hL.os.trans hW.os, hL.tape.trans hW.tape, hL.output.trans hW.output, Nat.le_trans hW.size hL.size, fun k hk hn => (hL.block k (by omega)).trans (hW.block k hk hn)⟩⟩
theorem buf_new (w : World) : BufAt w.heap.size [] (w.alloc (.cells #[.pointer none, .slice none 0 0] 58)) := Lib.IsBuilderF.of (Lib.fresh_isBuilder _ _ w)

set_option maxHeartbeats 2000000 in
theorem tr_text {w : World} {sa : Option Addr} {n cap : Nat} {D : List Ent} (hG : Glob w) (h : RecsAt eC 4 w sa n D) (hn : n ≤ 1000) :
    Calls Tryd.prog 12 #[.slice sa n cap] w (TextPost w D) := by
  have hl := h.len
  have hB0 := buf_new w
  have hW0 := (Wrote.refl Nil w).alloc (.cells #[.pointer none, .slice none 0 0] 58)
  obtain ⟨b, hb⟩ : ∃ b, b = w.heap.size := ⟨_, rfl⟩
  have H := Lib.hid (And.intro h (And.intro hl (And.intro hG (And.intro hB0 (And.intro hW0 hb)))))
  clear h hl hG hB0 hW0
  go_enter Tryd.func12, Tryd.ntmps12
  go_wp2
  rw [← hb]
  clear hb
  go_loopw [9] (fun iv wr => ∃ k : Nat, k ≤ n ∧ iv = .int .i64 k ∧ allM (D.take k) = true ∧ BufAt b (textOf (D.take k)) wr ∧ Wrote Nil w wr) (fun iv _ => n - (intOf iv).toNat)
  case atStart => exact ⟨0, Nat.zero_le _, rfl, rfl, by have := H.out.2.2.2.1; rw [H.out.2.2.2.2.2]; exact this, H.out.2.2.2.2.1⟩
  case round =>
    obtain ⟨k, hk, rfl, hA, hB, hW⟩ := hrel
    by_cases hlt : k < n
    · have hlt' : (k : Int) < n := by omega
      have k0 : (0 : Int) ≤ k := by omega
      obtain ⟨⟨x0, x1, x2, x3⟩, hx⟩ : ∃ x, D[k]? = some x := ⟨D[k]'(by rw [H.out.2.1]; exact hlt), List.getElem?_eq_getElem _⟩
      rcases (H.out.1.after hW).at eC_ne with h0 | ⟨bb, o, rfl, hc⟩
      · omega
      obtain ⟨e0, e1, e2, e3⟩ := cells_e hc hx
      have hfew : (textOf (D.take k)).length ≤ 60 * 1000 := by
        have h1 := text_few ((allM_iff _).1 hA)
        have h2 : (D.take k).length ≤ k := by rw [List.length_take]; omega
        omega
      have hWX : Wrote Nil wr (wr.alloc (.cells #[.int .i64 x0, .int .i64 x1, .int .i64 x2, .bool x3] 41)) := (Wrote.refl _ _).alloc _
      have HS := Lib.hid (And.intro hx (And.intro hA (And.intro hB (And.intro hW (And.intro hfew hWX)))))
      clear hc hx hA hB hW hfew hWX
      cases hm : mayE ⟨x0, x1, x2, x3⟩ with
      | true =>
        have c1 := fun W => tr_right W x0 x1 x2 x3
        rw [hm] at c1
        have c2 : ∀ W, Wrote Nil wr W → Calls Tryd.prog 26 #[.agg #[.int .i64 x0, .int .i64 x1, .int .i64 x2, .bool x3]] W fun e w' => e = .returned (.string (strB (lineE ⟨x0, x1, x2, x3⟩))) ∧ Wrote Nil W w' := fun W h => tr_line (H.out.2.2.1.after (HS.out.2.2.2.1.nil h)) x0 x1 x2 x3 hm
        have c3 : ∀ W, Wrote Nil wr W → Calls Tryd.prog 25 #[.pointer (some ⟨b, 0, none⟩), .string (strB (lineE ⟨x0, x1, x2, x3⟩))] W fun e w' => (∃ x : Int, e = .returned (.tuple #[.int .i64 x, .nilIface])) ∧ BufAt b (textOf (D.take k) ++ lineE ⟨x0, x1, x2, x3⟩) w' ∧ Wrote Nil w w' := fun W h => buf_write (HS.out.2.2.1.after h) H.out.2.2.2.2.2 (HS.out.2.2.2.1.nil h) (by have := line_few hm; have := HS.out.2.2.2.2.1; omega)
        have HM := Lib.hid hm
        have HC := Lib.hid (And.intro c2 c3)
        generalize strB (lineE ⟨x0, x1, x2, x3⟩) = sl at HC
        clear hm c2 c3
        go_wp2_with (first
          | (go_at_call 24; (with_reducible refine (c1 _).mono ?_); rintro e w1 ⟨rfl, hW1⟩; have g0 : w1.cell? ⟨wr.heap.size, 0, none⟩ = some (.int .i64 x0) := hW1.old (by simp); have g1 : w1.cell? ⟨wr.heap.size, 1, none⟩ = some (.int .i64 x1) := hW1.old (by simp); have g2 : w1.cell? ⟨wr.heap.size, 2, none⟩ = some (.int .i64 x2) := hW1.old (by simp); have g3 : w1.cell? ⟨wr.heap.size, 3, none⟩ = some (.bool x3) := hW1.old (by simp); have H1 := Lib.hid (HS.out.2.2.2.2.2.nil hW1); clear hW1)
          | (go_at_call 26; (with_reducible refine (HC.out.1 _ H1.out).mono ?_); rintro e w2 ⟨rfl, hW2⟩; have H2 := Lib.hid (H1.out.nil hW2); clear hW2)
          | (go_at_call 25; (with_reducible refine (HC.out.2 _ H2.out).mono ?_); rintro e w3 ⟨⟨x, rfl⟩, hB3, hW3⟩; have H3 := Lib.hid (And.intro hB3 hW3); clear hB3 hW3))
        exact ⟨⟨k + 1, by omega, by simp, allM_step HS.out.1 HS.out.2.1 HM.out, by rw [textOf_step HS.out.1]; exact H3.out.1, H3.out.2⟩, by simp [intOf]; omega⟩
      | false =>
        have c1 := fun W => tr_right W x0 x1 x2 x3
        rw [hm] at c1
        have hA := allM_not HS.out.1 hm
        have HM := Lib.hid hA
        clear hm hA
        go_wp2_with (go_at_call 24; (with_reducible refine (c1 _).mono ?_); rintro e w1 ⟨rfl, hW1⟩; have H1 := Lib.hid (HS.out.2.2.2.2.2.nil hW1); clear hW1)
        refine bodyPost_ret (results_tmp2 rfl _ _ _) rfl ?_
        exact ⟨by rw [txtS, txtE, HM.out]; rfl, HS.out.2.2.2.1.nil H1.out⟩
    · obtain rfl : k = n := by omega
      rw [List.take_of_length_le (by rw [H.out.2.1]; exact Nat.le_refl _)] at hA hB
      have c1 := buf_string hB H.out.2.2.2.2.2 hW
      have HA := Lib.hid hA
      clear hA hB hW
      go_wp2_with (go_at_call 27; (with_reducible refine c1.mono ?_); rintro e w1 ⟨rfl, hW1⟩)
      refine bodyPost_ret (results_tmp2 rfl _ _ _) rfl ?_
      exact ⟨by rw [txtS, txtE, HA.out]; rfl, hW1⟩

/-! the document's example -/
theorem awake_text : textOf [⟨4, 3, 10, true⟩] = [103, 114, 97, 110, 116, 32, 51, 32, 49, 48, 32, 108, 101, 97, 100, 10] := by
  have h3 : Lib.decDigits 3 = [51] := by rw [Lib.decDigits_one (by decide)]; rfl
  have h10 : Lib.decDigits 10 = [49, 48] := by rw [Lib.decDigits_two (by decide) (by decide)]; rfl
  simp [textOf, lineE, lineL, h3, h10, wordL, leadL]
set_option maxHeartbeats 1000000 in
theorem awake_any {w : World} (hG : Glob w) : Calls Tryd.prog 8 #[] w fun e w' => e = .returned (.bool true) ∧ Wrote Nil w w' := by
  have hX := (Wrote.refl Nil w).alloc (.cells #[.int .i64 4, .int .i64 3, .int .i64 10, .bool true] 41)
  have hr : RecsAt eC 4 (w.alloc (.cells #[.int .i64 4, .int .i64 3, .int .i64 10, .bool true] 41)) (some ⟨w.heap.size, 0, none⟩) 1 [⟨4, 3, 10, true⟩] := by
    refine ⟨rfl, (fun h => nomatch h), fun a ha k x hx j u hu => ?_⟩
    obtain rfl : ⟨w.heap.size, 0, none⟩ = a := by simpa using ha
    obtain rfl : k = 0 := by have := (List.getElem?_eq_some_iff.1 hx).1; simp at this; exact this
    obtain rfl : (⟨4, 3, 10, true⟩ : Ent) = x := by simpa using hx
    have := news_at w (eC ⟨4, 3, 10, true⟩) 41 w.heap.size rfl j u hu
    rw [Nat.zero_mul, Nat.zero_add]
    exact this
  have c1 := tr_text (cap := 1) (hG.after hX) hr (by decide)
  have hs : txtS [⟨4, 3, 10, true⟩] = ⟨#[103, 114, 97, 110, 116, 32, 51, 32, 49, 48, 32, 108, 101, 97, 100, 10]⟩ := by
    rw [txtS, if_pos (by decide), awake_text]; rfl
  have he : txtE [⟨4, 3, 10, true⟩] = 0 := by rw [txtE, if_pos (by decide)]
  unfold TextPost at c1
  rw [hs, he] at c1
  have HX := Lib.hid hX
  clear hs he hr hX
  go_enter Tryd.func8, Tryd.ntmps8
  go_wp2_with (go_at_call 12; (with_reducible refine c1.mono ?_); rintro e w1 ⟨rfl, hW1⟩)
  go_ret
  exact ⟨rfl, HX.out.nil hW1⟩
end Go.Proofs.YtihlokhejopphaaDoor
