/- The law TraceVisible, as a contract. -/
import Derived.Test.YtihlokhejopphaaDoorTrRefs
import Derived.Test.YtihlokhejopphaaDoorTrWait
namespace Go.Proofs.YtihlokhejopphaaDoor
open Go.RowKit Go.BigFrame
set_option linter.unusedVariables false

theorem unl_vis (l : List Ent) (t : Int) : unl (visE l) t = unl l t := by
  induction l with
  | nil => rfl
  | cons e r ih =>
    by_cases h : (e.k == 2 || e.k == 3) = true
    · have h6 : (e.k == 6) = false := by
        rcases (Bool.or_eq_true _ _).mp h with h | h <;> (have h := eq_of_beq h; rw [h]; rfl)
      rw [unl_cons, h6, show visE (e :: r) = visE r by simp only [visE, List.filter_cons, h]; simp, ih]
      rfl
    · have h : (e.k == 2 || e.k == 3) = false := by simpa using h
      rw [unl_cons, show visE (e :: r) = ⟨e.k, e.t, e.n, false⟩ :: visE r by simp only [visE, List.filter_cons, h]; simp, unl_cons, ih]
theorem hold_vis (l : List Ent) : holdS (visE l) = holdS l := by
  induction l with
  | nil => rfl
  | cons e r ih =>
    by_cases h : (e.k == 2 || e.k == 3) = true
    · have h4 : e.k ≠ 4 := by
        rcases (Bool.or_eq_true _ _).mp h with h | h <;> (have h := eq_of_beq h; omega)
      rw [show visE (e :: r) = visE r by simp only [visE, List.filter_cons, h]; simp, ih]
      cases hr : holdS r with
      | some t => rw [holdS_some hr]
      | none => rw [holdS_not hr (.inl h4)]
    · have h : (e.k == 2 || e.k == 3) = false := by simpa using h
      rw [show visE (e :: r) = ⟨e.k, e.t, e.n, false⟩ :: visE r by simp only [visE, List.filter_cons, h]; simp]
      rw [holdS, holdS, ih, unl_vis]
theorem wait_vis (l : List Ent) (t : Int) : waitS (visE l) t = waitS l t := by
  have key : ∀ (l : List Ent) (b : Bool), (visE l).foldl (waitU t) b = l.foldl (waitU t) b := by
    intro l
    induction l with
    | nil => intro b; rfl
    | cons e r ih =>
      intro b
      by_cases h : (e.k == 2 || e.k == 3) = true
      · have hb : waitU t b e = b := by
          rcases (Bool.or_eq_true _ _).mp h with h | h <;> (have h := eq_of_beq h; simp [waitU, h])
        rw [show visE (e :: r) = visE r by simp only [visE, List.filter_cons, h]; simp, ih, List.foldl_cons, hb]
      · have h : (e.k == 2 || e.k == 3) = false := by simpa using h
        rw [show visE (e :: r) = ⟨e.k, e.t, e.n, false⟩ :: visE r by simp only [visE, List.filter_cons, h]; simp, List.foldl_cons, ih, List.foldl_cons]
        rfl
  exact key l false
theorem wf_vis {l : List Ent} (h : ∀ e ∈ l, (Lit.int .i64 e.t).wf = true) : ∀ e ∈ visE l, (Lit.int .i64 e.t).wf = true := by
  intro e he
  simp only [visE, List.mem_map, List.mem_filter] at he
  obtain ⟨x, ⟨hx, _⟩, rfl⟩ := he
  exact h x hx
theorem vis_len_le (D : List Ent) : (visE D).length ≤ D.length := by unfold visE; rw [List.length_map]; exact List.length_filter_le _ _

set_option maxRecDepth 100000 in
set_option maxHeartbeats 4000000 in
theorem law_visible {w : World} {sa : Option Addr} {n cap : Nat} {D : List Ent} (hG : Glob w) (h : RecsAt eC 4 w sa n D) (hwf : ∀ e ∈ D, (Lit.int .i64 e.t).wf = true) :
    Calls Tryd.prog 6 #[.slice sa n cap] w fun e w' => e = .returned (.bool true) ∧ Wrote Nil w w' := by
  have hl := h.len
  by_cases hn : 100 < n
  · have hn' : (100 : Int) < n := by omega
    have c1 := awake_any hG
    go_enter Tryd.func6, Tryd.ntmps6
    go_wp2_with (go_at_call 8; (with_reducible refine c1.mono ?_); rintro e w1 ⟨rfl, hW1⟩)
    go_ret
    exact ⟨rfl, hW1⟩
  have hn : n ≤ 100 := by omega
  have hn' : ¬ (100 : Int) < n := by omega
  have c1 := ref_any (cap := cap) h (by omega)
  unfold RowPost at c1
  rw [hl] at c1
  obtain ⟨i0, hi, hz0, hz1, hz2⟩ := info_parts3 info_rn
  have H := Lib.hid (And.intro h (And.intro hl (And.intro hG hwf)))
  clear h hl hG hwf
  go_enter Tryd.func6, Tryd.ntmps6
  go_wp2_with (go_at_call 9; (with_reducible refine c1.mono ?_); rintro e w1 ⟨sr, cr, rfl, hcr, hr, hW⟩; have HR := Lib.hid (And.intro hr hW); clear hr hW)
  clear c1
  have hG0 : Grow 27 4 w w1.heap.size w1 0 [] (.slice none 0 0) := ⟨World.ownsRow_nil _ _ _ _, HR.out.2, Nat.le_refl _, HR.out.2.size⟩
  have HG0 := Lib.hid hG0
  clear hG0
  go_loopw [3, 18] (fun dv iv wr => ∃ (k : Nat) (dv0 : Value), dv0 = dv ∧ k ≤ n ∧ iv = .int .i64 k ∧ Grow 27 4 w1 w1.heap.size wr (visE (D.take k)).length ((visE (D.take k)).flatMap rC) dv) (fun _ iv _ => n - (intOf iv).toNat)
  case atStart => exact ⟨0, _, rfl, Nat.zero_le _, rfl, grow_here _ _ _⟩
  case round =>
    obtain ⟨k, dv, rfl, hk, rfl, hGr⟩ := hrel
    by_cases hlt : k < n
    · have hlt' : (k : Int) < n := by omega
      have k0 : (0 : Int) ≤ k := by omega
      obtain ⟨⟨x0, x1, x2, x3⟩, hx⟩ : ∃ x, D[k]? = some x := ⟨D[k]'(by rw [H.out.2.1]; exact hlt), List.getElem?_eq_getElem _⟩
      rcases (HR.out.1.after hGr.wrote).at rC_ne with h0 | ⟨b, o, rfl, hc⟩
      · omega
      obtain ⟨e0, e1, e2, e3⟩ := cells_r hc hx
      have hG2 := fun (o1 o2 : Obj) => hGr.after (((Wrote.refl Nil wr).alloc o1).alloc o2)
      have hG1 := fun (o1 : Obj) => hGr.after ((Wrote.refl Nil wr).alloc o1)
      have hm := vis_len D k
      obtain ⟨m, hmm⟩ : ∃ m, m = (visE (D.take k)).length := ⟨_, rfl⟩
      rw [← hmm] at hm
      have HS := Lib.hid (And.intro hx (And.intro hG2 (And.intro hG1 hmm)))
      clear hc hx hGr hG2 hG1 hmm
      generalize ldI x3 = x4 at e3
      by_cases q2 : x0 = 2
      · subst q2
        go_wp2
        exact ⟨⟨k + 1, _, rfl, by omega, by simp, by rw [vis_hide HS.out.1 rfl]; exact HS.out.2.2.1 _⟩, by simp [intOf]; omega⟩
      have t2 : ((x0 : Int) != 2) = true := by simpa using q2
      by_cases q3 : x0 = 3
      · subst q3
        clear t2
        go_wp2
        exact ⟨⟨k + 1, _, rfl, by omega, by simp, by rw [vis_hide HS.out.1 rfl]; exact HS.out.2.2.1 _⟩, by simp [intOf]; omega⟩
      have t3 : ((x0 : Int) != 3) = true := by simpa using q3
      have ht : ((⟨x0, x1, x2, x3⟩ : Ent).k == 2 || (⟨x0, x1, x2, x3⟩ : Ent).k == 3) = false := by simp [q2, q3]
      have HT := Lib.hid ht
      clear q2 q3 ht
      go_wp2_with (at_builtin; refine wpList_append_own _ rfl _ _ 24 rfl w1.heap.size 27 i0 (.agg #[.int .i64 0, .int .i64 0, .int .i64 0, .int .i64 0]) 4 32 Tryd.underlying24 hi hz0 hz1 hz2 rfl (by decide) dv (visE (D.take k)).length ((visE (D.take k)).flatMap rC) rfl (HS.out.2.1 _ _).own ⟨wr.heap.size + 1, 0, none⟩ 1 1 (rC ⟨x0, x1, x2, false⟩) rfl rfl (news_at _ _ _ _ (by simp)) (rC_one _) (by rw [← HS.out.2.2.2]; unfold maxLen; omega) (by rw [← HS.out.2.2.2]; omega) (HS.out.2.1 _ _).size ?_; intro v' w6 hown hgrow hnil; have HG6 := Lib.hid ((HS.out.2.1 _ _).more hown hgrow); clear hown hgrow hnil)
      exact ⟨⟨k + 1, _, rfl, by omega, by simp, by rw [vis_show HS.out.1 HT.out, List.length_append, List.flatMap_append]; simpa using HG6.out⟩, by simp [intOf]; omega⟩
    · obtain rfl : k = n := by omega
      rw [List.take_of_length_le (by rw [H.out.2.1]; exact Nat.le_refl _)] at hGr
      obtain ⟨sv, cv, hdv, hcv, hrv, hWv⟩ : RowPost rC 27 w1 (visE D) (.returned dv) wr := row_end rC_len hGr
      obtain rfl : dv = .slice sv (visE D).length cv := by simpa using hdv
      have hvl : (visE D).length ≤ 100 := by have := vis_len_le D; rw [H.out.2.1] at this; omega
      have hW1 := HR.out.2.nil hWv
      have hwf := H.out.2.2.2
      have hwv := wf_vis hwf
      have c2 : ∀ W, Wrote Nil wr W → Calls Tryd.prog 21 #[.slice sa k cap] W (RowPost eC 41 W (visE D)) := fun W h => tr_visible (H.out.1.after (hW1.nil h)) (by omega)
      unfold RowPost at c2
      have c3 : ∀ W, Wrote Nil wr W → Calls Tryd.prog 16 #[.slice sa k cap] W (HoldPost W D) := fun W h => tr_holder (H.out.1.after (hW1.nil h)) (by omega) hwf
      unfold HoldPost at c3
      have c5 : ∀ W, Wrote Nil wr W → Calls Tryd.prog 19 #[.slice sa k cap] W (WaitPost W D) := fun W h => tr_waiting (H.out.1.after (hW1.nil h)) (by omega) hwf
      unfold WaitPost at c5
      have c6 : ∀ W, Wrote Nil wr W → Calls Tryd.prog 8 #[] W fun e w' => e = .returned (.bool true) ∧ Wrote Nil W w' := fun W h => awake_any (H.out.2.2.1.after (hW1.nil h))
      have HC := Lib.hid (And.intro c2 (And.intro c3 (And.intro c5 (And.intro c6 (And.intro hW1 (And.intro hrv hwv))))))
      clear hGr hrv hWv hW1 hwf hwv c2 c3 c5 c6 hdv hcv
      obtain ⟨nv, hnv⟩ : ∃ nv, nv = (visE D).length := ⟨_, rfl⟩
      rw [← hnv] at hvl ⊢
      have HN := Lib.hid hnv
      clear hnv
      have c4 : ∀ W sv2 cv2, RecsAt eC 4 W sv2 nv (visE D) → Calls Tryd.prog 16 #[.slice sv2 nv cv2] W fun e w' => e = .returned (.tuple #[.int .i64 ((holdS D).getD 0), .bool (holdS D).isSome]) ∧ Wrote Nil W w' := fun W sv2 cv2 h => by
        have := tr_holder (cap := cv2) h (by omega) HC.out.2.2.2.2.2.2
        unfold HoldPost at this
        rw [hold_vis] at this
        exact this
      have c7 : ∀ W sv2 cv2, RecsAt eC 4 W sv2 nv (visE D) → Calls Tryd.prog 19 #[.slice sv2 nv cv2] W (WaitPost W (visE D)) := fun W sv2 cv2 h => tr_waiting h (by omega) HC.out.2.2.2.2.2.2
      unfold WaitPost at c7
      have c8 : ∀ W sv2 cv2, RecsAt eC 4 W sv2 nv (visE D) → Wrote Nil wr W → Calls Tryd.prog 14 #[.slice sv2 nv cv2, .slice sv nv cv] W fun e w' => e = .returned (.bool true) ∧ Wrote Nil W w' := fun W sv2 cv2 h k => same_any h (by have := HC.out.2.2.2.2.2.1.after k; rwa [← HN.out] at this) (by omega)
      have HC2 := Lib.hid (And.intro c4 (And.intro c7 c8))
      clear c4 c7 c8
      have c3 := HC.out.2.1
      obtain ⟨hx, hhx⟩ : ∃ hx, hx = (holdS D).getD 0 := ⟨_, rfl⟩
      obtain ⟨hb, hhb⟩ : ∃ hb, hb = (holdS D).isSome := ⟨_, rfl⟩
      have c4 := HC2.out.1
      rw [← hhx, ← hhb] at c3 c4
      have HC3 := Lib.hid (And.intro c3 c4)
      clear c3 c4 hhx hhb
      go_wp2_with (first
        | (go_at_call 21; (with_reducible refine (HC.out.1 _ (Wrote.refl _ _)).mono ?_); rintro e w2 ⟨sv2, cv2, rfl, hcv2, hrv2, hW2⟩; rw [← HN.out] at hrv2 hcv2 ⊢; have H2 := Lib.hid (And.intro hrv2 hW2); clear hrv2 hW2)
        | (go_at_call 16; (with_reducible refine (HC3.out.1 _ H2.out.2).mono ?_); rintro e w3 ⟨rfl, hW3⟩; have H3 := Lib.hid (And.intro (H2.out.1.after hW3) (H2.out.2.nil hW3)); clear hW3)
        | (go_at_call 16; (with_reducible refine (HC3.out.2 _ _ _ H3.out.1).mono ?_); rintro e w4 ⟨rfl, hW4⟩; have H4 := Lib.hid (And.intro (H3.out.1.after hW4) (H3.out.2.nil hW4)); clear hW4)
        | (go_at_call 14; (with_reducible refine (HC2.out.2.2 _ _ _ H4.out.1 H4.out.2).mono ?_); rintro e w5 ⟨rfl, hW5⟩; have H5 := Lib.hid (And.intro (H4.out.1.after hW5) (H4.out.2.nil hW5)); clear hW5)
        | (go_at_call 19; (with_reducible refine (HC2.out.2.1 _ _ _ H5.out.1).mono ?_); rintro e w6 ⟨xs, dv6, rfl, hG6, hL6, hn6⟩; obtain ⟨sw, cw, rfl⟩ := hG6.form; have H6 := Lib.hid (And.intro hL6 (H5.out.2.nil hG6.wrote)); clear hG6 hL6)
        | (go_at_call 19; (with_reducible refine (HC.out.2.2.1 _ H6.out.2).mono ?_); rintro e w7 ⟨ys, dv7, rfl, hG7, hL7, hn7⟩; obtain ⟨sw7, cw7, rfl⟩ := hG7.form; have hxy := waitL_same H6.out.1 hL7 (fun t => wait_vis D t); subst hxy; have H7 := Lib.hid (H6.out.2.nil hG7.wrote); clear hG7 hL7)
        | (go_at_call 8; (with_reducible refine (HC.out.2.2.2.1 _ H7.out).mono ?_); rintro e w8 ⟨rfl, hW8⟩; have H8 := Lib.hid (H7.out.nil hW8); clear hW8))
      go_ret
      exact ⟨rfl, HC.out.2.2.2.2.1.nil H8.out⟩
end Go.Proofs.YtihlokhejopphaaDoor
