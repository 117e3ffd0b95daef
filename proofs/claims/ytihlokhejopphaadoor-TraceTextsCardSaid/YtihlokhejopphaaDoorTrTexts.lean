/- The law TraceTexts, as a contract. -/
import Derived.Test.YtihlokhejopphaaDoorTrPars
import Derived.Test.YtihlokhejopphaaDoorTrSame
namespace Go.Proofs.YtihlokhejopphaaDoor
open Go.RowKit Go.BigFrame
set_option linter.unusedVariables false

theorem may_take {D : List Ent} {k : Nat} {x : Ent} (hx : D[k]? = some x) (b : Bool) (hb : b = allM (D.take k)) : allM (D.take (k + 1)) = (b && mayE x) := by
  rw [take_step hx, hb]; simp [allM]

set_option maxRecDepth 100000 in
set_option maxHeartbeats 4000000 in
theorem law_texts {w : World} {sa : Option Addr} {n cap : Nat} {D : List Ent} (hG : Glob2 w) (h : RecsAt eC 4 w sa n D) :
    Calls Tryd.prog 3 #[.slice sa n cap] w fun e w' => e = .returned (.bool true) ∧ Wrote Nil w w' := by
  have hl := h.len
  have ca : ∀ W, Wrote Nil w W → Calls Tryd.prog 8 #[] W fun e w' => e = .returned (.bool true) ∧ Wrote Nil W w' := fun W h => awake_any (hG.after h).one
  by_cases hn : 100 < n
  · have hn' : (100 : Int) < n := by omega
    have c1 := ca w (Wrote.refl _ _)
    clear ca
    go_enter Tryd.func3, Tryd.ntmps3
    go_wp2_with (go_at_call 8; (with_reducible refine c1.mono ?_); rintro e w1 ⟨rfl, hW1⟩)
    go_ret
    exact ⟨rfl, hW1⟩
  have hn : n ≤ 100 := by omega
  have hn' : ¬ (100 : Int) < n := by omega
  have c1 : ∀ W, Wrote Nil w W → Calls Tryd.prog 9 #[.slice sa n cap] W (RowPost rC 27 W D) := fun W k => ref_any (h.after k) (by omega)
  unfold RowPost at c1
  rw [hl] at c1
  have c2 : ∀ W, Wrote Nil w W → Calls Tryd.prog 12 #[.slice sa n cap] W (TextPost W D) := fun W k => tr_text (hG.after k).one (h.after k) (by omega)
  unfold TextPost at c2
  have H := Lib.hid (And.intro h (And.intro hl (And.intro hG (And.intro ca (And.intro c1 c2)))))
  clear h hl hG ca c1 c2
  go_enter Tryd.func3, Tryd.ntmps3
  go_wp2_with (go_at_call 9; (with_reducible refine (H.out.2.2.2.2.1 _ (Wrote.refl _ _)).mono ?_); rintro e w1 ⟨sr, cr, rfl, hcr, hr, hW⟩; have HR := Lib.hid (And.intro hr hW); clear hr hW)
  go_loopw [3, 4, 19] (fun sv bv iv wr => ∃ (k : Nat) (b : Bool) (l : List UInt8), k ≤ n ∧ iv = .int .i64 k ∧ bv = .bool b ∧ sv = .string (strB l) ∧ Hid (b = allM (D.take k)) ∧ Hid (b = true → l = textOf (D.take k)) ∧ Wrote Nil w1 wr) (fun _ _ iv _ => n - (intOf iv).toNat)
  case atStart => exact ⟨0, true, [], Nat.zero_le _, rfl, rfl, rfl, Lib.hid rfl, Lib.hid (fun _ => rfl), Wrote.refl _ _⟩
  case round =>
    obtain ⟨k, b, l, hk, rfl, rfl, rfl, hb, hl, hW⟩ := hrel
    by_cases hlt : k < n
    · have hlt' : (k : Int) < n := by omega
      have k0 : (0 : Int) ≤ k := by omega
      obtain ⟨⟨x0, x1, x2, x3⟩, hx⟩ : ∃ x, D[k]? = some x := ⟨D[k]'(by rw [H.out.2.1]; exact hlt), List.getElem?_eq_getElem _⟩
      rcases (HR.out.1.after hW).at rC_ne with h0 | ⟨bb, o, rfl, hc⟩
      · omega
      obtain ⟨e0, e1, e2, e3⟩ := cells_r hc hx
      have hmt := may_take hx b hb.out
      have hts := textOf_step hx
      have c1 := fun W => rf_may W x0 x1 x2 x3
      have hWX : Wrote Nil wr (wr.alloc (.cells #[.int .i64 x0, .int .i64 x1, .int .i64 x2, .int .i64 (ldI x3)] 27)) := (Wrote.refl _ _).alloc _
      have HS := Lib.hid (And.intro hmt (And.intro hts (And.intro hl (And.intro hW (And.intro hb hWX)))))
      clear hc hx hmt hts hl hW hb hWX
      cases b with
      | false =>
        clear c1
        generalize ldI x3 = x4 at e3 HS
        go_wp2
        exact ⟨⟨k + 1, false, l, by omega, by simp, rfl, rfl, Lib.hid (by rw [HS.out.1]; rfl), Lib.hid (fun h => by cases h), HS.out.2.2.2.1.nil HS.out.2.2.2.2.2⟩, by simp [intOf]; omega⟩
      | true =>
        have hle := HS.out.2.2.1.out rfl
        have hal := HS.out.2.2.2.2.1.out
        cases hm : mayE ⟨x0, x1, x2, x3⟩ with
        | false =>
          rw [hm] at c1
          have HM := Lib.hid hm
          clear hle hal hm
          generalize ldI x3 = x4 at e3 HS c1
          go_wp2_with (go_at_call 10; (with_reducible refine (c1 _).mono ?_); rintro e w2 ⟨rfl, hW2⟩; have H2 := Lib.hid (HS.out.2.2.2.1.nil (HS.out.2.2.2.2.2.nil hW2)); clear hW2)
          exact ⟨⟨k + 1, false, l, by omega, by simp, rfl, rfl, Lib.hid (by rw [HS.out.1, HM.out]; rfl), Lib.hid (fun h => by cases h), H2.out⟩, by simp [intOf]; omega⟩
        | true =>
          rw [hm] at c1
          have hfew : l.length ≤ 6000 := by
            rw [hle]
            have h1 := text_few ((allM_iff _).1 hal.symm)
            have h2 : (D.take k).length ≤ k := by rw [List.length_take]; omega
            omega
          have hlf := line_few hm
          have hle2 : (lineL ⟨x0, x1, x2, x3⟩).length + 1 ≤ 60 := by
            rw [show lineE ⟨x0, x1, x2, x3⟩ = lineL ⟨x0, x1, x2, x3⟩ ++ [10] from rfl, List.length_append] at hlf
            exact hlf
          have c2 := fun W => rf_line W x0 x1 x2 x3 hm
          have a1 := add_str (a := lineL ⟨x0, x1, x2, x3⟩) (b := [10]) (by simp; omega)
          have a2 := add_str (a := l) (b := lineE ⟨x0, x1, x2, x3⟩) (by omega)
          rw [show lineL ⟨x0, x1, x2, x3⟩ ++ [10] = lineE ⟨x0, x1, x2, x3⟩ from rfl] at a1
          rw [show strB [10] = ⟨#[10]⟩ from rfl] at a1
          have HM := Lib.hid (And.intro hm hle)
          clear hle hal hm hlf hle2 hfew
          obtain ⟨s3, hs3⟩ : ∃ s3, s3 = l ++ lineE ⟨x0, x1, x2, x3⟩ := ⟨_, rfl⟩
          rw [← hs3] at a2
          have H3 := Lib.hid hs3
          clear hs3
          generalize strB (lineL ⟨x0, x1, x2, x3⟩) = s1 at a1 c2
          generalize strB (lineE ⟨x0, x1, x2, x3⟩) = s2 at a1 a2
          generalize ldI x3 = x4 at e3 HS c1 c2
          go_wp2_with (first
            | (go_at_call 10; (with_reducible refine (c1 _).mono ?_); rintro e w2 ⟨rfl, hW2⟩; have g0 : w2.cell? ⟨wr.heap.size, 0, none⟩ = some (.int .i64 x0) := hW2.old (by simp); have g1 : w2.cell? ⟨wr.heap.size, 1, none⟩ = some (.int .i64 x1) := hW2.old (by simp); have g2 : w2.cell? ⟨wr.heap.size, 2, none⟩ = some (.int .i64 x2) := hW2.old (by simp); have g3 : w2.cell? ⟨wr.heap.size, 3, none⟩ = some (.int .i64 x4) := hW2.old (by simp); have H2 := Lib.hid (HS.out.2.2.2.1.nil (HS.out.2.2.2.2.2.nil hW2)); clear hW2)
            | (go_at_call 11; (with_reducible refine (c2 _).mono ?_); rintro e w4 ⟨rfl, hW4⟩; have H4 := Lib.hid (H2.out.nil hW4); clear hW4))
          exact ⟨⟨k + 1, true, s3, by omega, by simp, rfl, rfl, Lib.hid (by rw [HS.out.1, HM.out.1]; rfl), Lib.hid (fun _ => by rw [H3.out, HM.out.2, HS.out.2.1]), H4.out⟩, by simp [intOf]; omega⟩
    · obtain rfl : k = n := by omega
      have htk : D.take k = D := List.take_of_length_le (by rw [H.out.2.1]; exact Nat.le_refl _)
      rw [htk] at hb hl
      have c2 := H.out.2.2.2.2.2
      cases b with
      | false =>
        have e1 : txtS D = ⟨#[]⟩ := by rw [txtS, ← hb.out]; rfl
        have e2 : txtE D = 4 := by rw [txtE, ← hb.out]; rfl
        rw [e1, e2] at c2
        have HC := Lib.hid (And.intro c2 (HR.out.2.nil hW))
        clear c2 e1 e2 hb hl hW
        go_wp2_with (first
          | (go_at_call 12; (with_reducible refine (HC.out.1 _ HC.out.2).mono ?_); rintro e w2 ⟨rfl, hW2⟩; have H2 := Lib.hid (HC.out.2.nil hW2); clear hW2)
          | (go_at_call 8; (with_reducible refine (H.out.2.2.2.1 _ H2.out).mono ?_); rintro e w8 ⟨rfl, hW8⟩; have H8 := Lib.hid (H2.out.nil hW8); clear hW8))
        go_ret
        exact ⟨rfl, H8.out⟩
      | true =>
        obtain rfl := hl.out rfl
        have e1 : txtS D = strB (textOf D) := by rw [txtS, ← hb.out]; rfl
        have e2 : txtE D = 0 := by rw [txtE, ← hb.out]; rfl
        rw [e1, e2] at c2
        have hall := (allM_iff _).1 hb.out.symm
        have hpt := parse_text hall
        have hgE : gotE (textOf D) = D := by unfold gotE; rw [hpt]; rfl
        have c3 : ∀ W, Wrote Nil w W → Calls Tryd.prog 13 #[.string (strB (textOf D))] W fun e w' => ∃ sm cm, e = .returned (.tuple #[.slice sm k cm, .int .i64 (k : Nat), .int .i64 0]) ∧ RecsAt eC 4 w' sm k D ∧ Wrote Nil W w' := fun W h => by
          have hp := tr_parse (H.out.2.2.1.after h) (textOf D) (by have := text_few hall; have := H.out.2.1; omega)
          unfold ParsePost at hp
          rw [hgE, hpt, H.out.2.1] at hp
          exact hp.mono fun e w' ⟨sm, cm, h1, _, h2, h3⟩ => ⟨sm, cm, by rw [h1]; rfl, h2, h3⟩
        have c4 : ∀ W s0 c0 s1 c1, RecsAt eC 4 W s0 k D → RecsAt rC 4 W s1 k D → Calls Tryd.prog 14 #[.slice s0 k c0, .slice s1 k c1] W fun e w' => e = .returned (.bool true) ∧ Wrote Nil W w' := fun W s0 c0 s1 c1 h0 h1 => same_any h0 h1 (by omega)
        have HC := Lib.hid (And.intro c2 (And.intro (HR.out.2.nil hW) (And.intro c3 c4)))
        clear c2 c3 c4 e1 e2 hb hl hW hall hpt hgE
        generalize strB (textOf D) = st at HC ⊢
        go_wp2_with (first
          | (go_at_call 12; (with_reducible refine (HC.out.1 _ HC.out.2.1).mono ?_); rintro e w2 ⟨rfl, hW2⟩; have H2 := Lib.hid (HC.out.2.1.nil hW2); clear hW2)
          | (go_at_call 13; (with_reducible refine (HC.out.2.2.1 _ H2.out).mono ?_); rintro e w3 ⟨sm, cm, rfl, hr3, hW3⟩; have H3 := Lib.hid (And.intro hr3 (H2.out.nil hW3)); clear hr3 hW3)
          | (go_at_call 9; (with_reducible refine (H.out.2.2.2.2.1 _ H3.out.2).mono ?_); rintro e w4 ⟨sr4, cr4, rfl, hcr4, hr4, hW4⟩; have H4 := Lib.hid (And.intro hr4 (And.intro (H3.out.1.after hW4) (H3.out.2.nil hW4))); clear hr4 hW4)
          | (go_at_call 14; (with_reducible refine (HC.out.2.2.2 _ _ _ _ _ H4.out.2.1 H4.out.1).mono ?_); rintro e w5 ⟨rfl, hW5⟩; have H5 := Lib.hid (H4.out.2.2.nil hW5); clear hW5)
          | (go_at_call 8; (with_reducible refine (H.out.2.2.2.1 _ H5.out).mono ?_); rintro e w8 ⟨rfl, hW8⟩; have H8 := Lib.hid (H5.out.nil hW8); clear hW8))
        go_ret
        exact ⟨rfl, H8.out⟩
end Go.Proofs.YtihlokhejopphaaDoor
