/- The law TraceTells, as a contract. -/
import Derived.Test.YtihlokhejopphaaDoorTrRefs
import Derived.Test.YtihlokhejopphaaDoorTrWait
namespace Go.Proofs.YtihlokhejopphaaDoor
open Go.RowKit Go.BigFrame
set_option linter.unusedVariables false

theorem hold_mem {l : List Ent} {t : Int} (h : holdS l = some t) : ∃ e ∈ l, e.t = t := by
  induction l with
  | nil => cases h
  | cons e r ih =>
    rw [holdS] at h
    cases hr : holdS r with
    | some u =>
      rw [hr] at h
      obtain ⟨x, hx, hxt⟩ := ih (by rw [hr]; exact h)
      exact ⟨x, List.mem_cons_of_mem _ hx, hxt⟩
    | none =>
      rw [hr] at h
      simp only at h
      split at h
      · exact ⟨e, List.mem_cons_self, by simpa using h⟩
      · cases h
theorem wait_mem {l : List Ent} {t : Int} (h : waitS l t = true) : ∃ e ∈ l, e.t = t := by
  induction l using snoc_ind with
  | h0 => cases h
  | h1 q c ih =>
    rw [waitS_snoc] at h
    by_cases hc : c.t = t
    · exact ⟨c, by simp, hc⟩
    · simp only [waitU, hc, if_false] at h
      obtain ⟨e, he, het⟩ := ih h
      exact ⟨e, by simp [he], het⟩

/-- the threads below t that wait -/
def lst (D : List Ent) (t : Nat) : List Int := ((List.range t).filter fun i => waitS D (i : Nat)).map fun i : Nat => ((i : Nat) : Int)
theorem lst_yes {D : List Ent} {t : Nat} (h : waitS D (t : Nat) = true) : lst D (t + 1) = lst D t ++ [(t : Int)] := by
  simp [lst, List.range_succ, List.filter_append, h]
theorem lst_no {D : List Ent} {t : Nat} (h : waitS D (t : Nat) = false) : lst D (t + 1) = lst D t := by
  simp [lst, List.range_succ, List.filter_append, h]
theorem lst_pre (D : List Ent) (a k : Nat) : lst D a <+: lst D (a + k) := by
  induction k with
  | zero => exact List.prefix_refl _
  | succ k ih =>
    cases h : waitS D ((a + k : Nat) : Int) with
    | true => rw [← Nat.add_assoc, lst_yes h]; exact ih.trans (List.prefix_append _ _)
    | false => rw [← Nat.add_assoc, lst_no h]; exact ih
theorem lst_at {D : List Ent} {t : Nat} (h : waitS D (t : Nat) = true) (ht : t < 64) : (lst D 64)[(lst D t).length]? = some (t : Int) := by
  obtain ⟨r, hr⟩ := lst_pre D (t + 1) (64 - (t + 1))
  rw [show t + 1 + (64 - (t + 1)) = 64 by omega] at hr
  rw [← hr, lst_yes h]
  simp
theorem lst_few (D : List Ent) (t : Nat) : (lst D t).length ≤ t := by
  unfold lst
  rw [List.length_map]
  have := List.length_filter_le (fun i : Nat => waitS D (i : Int)) (List.range t)
  rw [List.length_range] at this
  exact this
theorem lst_waitL {D : List Ent} (h : ∀ e ∈ D, 0 ≤ e.t ∧ e.t ≤ 63) : WaitL D (lst D 64) := by
  refine ⟨?_, fun t => ?_⟩
  · unfold lst
    rw [List.pairwise_map]
    exact (List.Pairwise.filter _ List.pairwise_lt_range).imp fun {a b} hab => by omega
  · unfold lst
    simp only [List.mem_map, List.mem_filter, List.mem_range]
    constructor
    · rintro ⟨i, ⟨hi, hw⟩, rfl⟩
      refine ⟨?_, hw⟩
      simp [Lit.wf, IntKind.min, IntKind.max, IntKind.signed, IntKind.bits]
      omega
    · rintro ⟨_, hw⟩
      obtain ⟨e, he, rfl⟩ := wait_mem hw
      have := h e he
      exact ⟨e.t.toNat, ⟨by omega, by rw [Int.toNat_of_nonneg this.1]; exact hw⟩, Int.toNat_of_nonneg this.1⟩

set_option maxRecDepth 100000 in
set_option maxHeartbeats 4000000 in
theorem law_tells {w : World} {sa : Option Addr} {n cap : Nat} {D : List Ent} (hG : Glob w) (h : RecsAt eC 4 w sa n D) (hwf : ∀ e ∈ D, (Lit.int .i64 e.t).wf = true) (c : Int) :
    Calls Tryd.prog 5 #[.slice sa n cap, .int .i64 c] w fun e w' => e = .returned (.bool true) ∧ Wrote Nil w w' := by
  have hl := h.len
  have ca : ∀ W, Wrote Nil w W → Calls Tryd.prog 8 #[] W fun e w' => e = .returned (.bool true) ∧ Wrote Nil W w' := fun W h => awake_any (hG.after h)
  by_cases hn : 100 < n
  · have hn' : (100 : Int) < n := by omega
    have c1 := ca w (Wrote.refl _ _)
    clear ca
    go_enter Tryd.func5, Tryd.ntmps5
    go_wp2_with (go_at_call 8; (with_reducible refine c1.mono ?_); rintro e w1 ⟨rfl, hW1⟩)
    go_ret
    exact ⟨rfl, hW1⟩
  have hn : n ≤ 100 := by omega
  have hn' : ¬ (100 : Int) < n := by omega
  have H := Lib.hid (And.intro h (And.intro hl (And.intro ca hwf)))
  clear h hl hG hwf ca
  go_enter Tryd.func5, Tryd.ntmps5
  go_wp2
  go_loopw [5, 21] (fun cv iv wr => ∃ (k m : Nat), k ≤ n ∧ iv = .int .i64 k ∧ cv = .int .i64 (m : Nat) ∧ Hid (m = cntE (D.take k) c) ∧ m ≤ k ∧ Hid (∀ e ∈ D.take k, 0 ≤ e.t ∧ e.t ≤ 63) ∧ Wrote Nil w wr) (fun _ iv _ => n - (intOf iv).toNat)
  case atStart => exact ⟨0, 0, Nat.zero_le _, rfl, rfl, Lib.hid (by simp [cntE]), Nat.le_refl _, Lib.hid (by simp), Wrote.refl _ _⟩
  case round =>
    obtain ⟨k, m, hk, rfl, rfl, hm, hmk, hth, hW⟩ := hrel
    by_cases hlt : k < n
    · have hlt' : (k : Int) < n := by omega
      have k0 : (0 : Int) ≤ k := by omega
      obtain ⟨⟨x0, x1, x2, x3⟩, hx⟩ : ∃ x, D[k]? = some x := ⟨D[k]'(by rw [H.out.2.1]; exact hlt), List.getElem?_eq_getElem _⟩
      rcases (H.out.1.after hW).at eC_ne with h0 | ⟨b, o, rfl, hc⟩
      · omega
      obtain ⟨e0, e1, e2, e3⟩ := cells_e hc hx
      have hstep := cnt_step D c hx
      have htk := take_step hx
      have HS := Lib.hid (And.intro hstep (And.intro htk (And.intro hm (And.intro hth (hW.alloc (.cells #[.int .i64 x0, .int .i64 x1, .int .i64 x2, .bool x3] 41))))))
      clear hc hx hstep htk hm hth hW
      have c1 := H.out.2.2.1 _ HS.out.2.2.2.2
      by_cases q0 : x1 < 0
      · have HQ := Lib.hid c1
        clear c1
        go_wp2_with (go_at_call 8; (with_reducible refine HQ.out.mono ?_); rintro e w1 ⟨rfl, hW1⟩)
        refine bodyPost_ret (results_tmp rfl _ _ _) rfl ?_
        exact ⟨rfl, HS.out.2.2.2.2.nil hW1⟩
      by_cases q63 : 63 < x1
      · have HQ := Lib.hid c1
        clear c1
        go_wp2_with (go_at_call 8; (with_reducible refine HQ.out.mono ?_); rintro e w1 ⟨rfl, hW1⟩)
        refine bodyPost_ret (results_tmp rfl _ _ _) rfl ?_
        exact ⟨rfl, HS.out.2.2.2.2.nil hW1⟩
      clear c1
      have hth' : ∀ e ∈ D.take (k + 1), 0 ≤ e.t ∧ e.t ≤ 63 := by
        rw [HS.out.2.1]
        intro e he
        rcases List.mem_append.1 he with he | he
        · exact HS.out.2.2.2.1.out e he
        · rw [List.mem_singleton] at he
          subst he
          exact ⟨by simp only; omega, by simp only; omega⟩
      have HT := Lib.hid hth'
      clear hth'
      by_cases hk2 : x0 = c
      · have hk3 : ((x0 : Int) == c) = true := by simpa using hk2
        have HK := Lib.hid hk3
        subst hk2
        go_wp2
        exact ⟨⟨k + 1, m + 1, by omega, by simp, by simp, Lib.hid (by have := HS.out.1; simp only [HK.out, if_true] at this; rw [this, ← HS.out.2.2.1.out]), by omega, Lib.hid HT.out, HS.out.2.2.2.2⟩, by simp [intOf]; omega⟩
      · have hk3 : ((x0 : Int) == c) = false := by simpa using hk2
        have HK := Lib.hid hk3
        clear hk2
        go_wp2
        exact ⟨⟨k + 1, m, by omega, by simp, rfl, Lib.hid (by have := HS.out.1; simp only [HK.out, Bool.false_eq_true, if_false, Nat.add_zero] at this; rw [this, ← HS.out.2.2.1.out]), by omega, Lib.hid HT.out, HS.out.2.2.2.2⟩, by simp [intOf]; omega⟩
    · obtain rfl : k = n := by omega
      have hE : m = cntE D c := by rw [hm.out, List.take_of_length_le (by rw [H.out.2.1]; exact Nat.le_refl _)]
      have hT : ∀ e ∈ D, 0 ≤ e.t ∧ e.t ≤ 63 := by have := hth.out; rwa [List.take_of_length_le (by rw [H.out.2.1]; exact Nat.le_refl _)] at this
      have c1 := ref_any (cap := cap) (H.out.1.after hW) (by omega)
      unfold RowPost at c1
      rw [H.out.2.1] at c1
      have c3 : ∀ W, Wrote Nil w W → Calls Tryd.prog 16 #[.slice sa k cap] W (HoldPost W D) := fun W h => tr_holder (H.out.1.after h) (by omega) H.out.2.2.2
      unfold HoldPost at c3
      have c4 : ∀ W, Wrote Nil w W → Calls Tryd.prog 18 #[.slice sa k cap, .int .i64 c] W fun e w' => e = .returned (.int .i64 (m : Nat)) ∧ Wrote Nil W w' := fun W h => by rw [hE]; exact tr_count (H.out.1.after h) (by omega) c
      have c5 : ∀ W, Wrote Nil w W → Calls Tryd.prog 19 #[.slice sa k cap] W (WaitPost W D) := fun W h => tr_waiting (H.out.1.after h) (by omega) H.out.2.2.2
      unfold WaitPost at c5
      have c6 : ∀ W sr cr, RecsAt rC 4 W sr k D → Calls Tryd.prog 17 #[.slice sr k cr] W fun e w' => e = .returned (.int .i64 ((holdS D).getD (-1))) ∧ Wrote Nil W w' := fun W sr cr h => rf_holder h (by omega)
      have hcase : holdS D = none ∨ ∃ t, holdS D = some t ∧ 0 ≤ t := by
        cases hh : holdS D with
        | none => exact .inl rfl
        | some t =>
          obtain ⟨e, he, rfl⟩ := hold_mem hh
          exact .inr ⟨_, rfl, (hT e he).1⟩
      have HC := Lib.hid (And.intro c1 (And.intro c3 (And.intro c4 (And.intro c5 (And.intro c6 (And.intro hT hW))))))
      clear hE hT hW hm hth c1 c3 c4 c5 c6
      rcases hcase with hh | ⟨t, hh, ht0⟩
      all_goals
        have c3 := HC.out.2.1
        have c6 := HC.out.2.2.2.2.1
        rw [hh] at c3 c6
        simp only [Option.getD_none, Option.isSome_none, Option.getD_some, Option.isSome_some] at c3 c6
        have HC3 := Lib.hid (And.intro c3 c6)
        clear c3 c6 hh
        go_wp2_with (first
          | (go_at_call 9; (with_reducible refine HC.out.1.mono ?_); rintro e w1 ⟨sr, cr, rfl, hcr, hr, hW⟩; have H1 := Lib.hid (And.intro hr (HC.out.2.2.2.2.2.2.nil hW)); clear hr hW)
          | (go_at_call 16; (with_reducible refine (HC3.out.1 _ H1.out.2).mono ?_); rintro e w3 ⟨rfl, hW3⟩; have H3 := Lib.hid (And.intro (H1.out.1.after hW3) (H1.out.2.nil hW3)); clear hW3)
          | (go_at_call 17; (with_reducible refine (HC3.out.2 _ _ _ H3.out.1).mono ?_); rintro e w4 ⟨rfl, hW4⟩; have H4 := Lib.hid (And.intro (H3.out.1.after hW4) (H3.out.2.nil hW4)); clear hW4)
          | (go_at_call 18; (with_reducible refine (HC.out.2.2.1 _ H4.out.2).mono ?_); rintro e w5 ⟨rfl, hW5⟩; have H5 := Lib.hid (And.intro (H4.out.1.after hW5) (H4.out.2.nil hW5)); clear hW5)
          | (go_at_call 19; (with_reducible refine (HC.out.2.2.2.1 _ H5.out.2).mono ?_); rintro e w6 ⟨xs, dv6, rfl, hG6, hL6, hn6⟩; obtain ⟨sw, cw, rfl⟩ := hG6.form; obtain rfl := waitL_same hL6 (lst_waitL HC.out.2.2.2.2.2.1) (fun _ => rfl); have H6 := Lib.hid (And.intro hG6.own (And.intro (H5.out.1.after hG6.wrote) (H5.out.2.nil hG6.wrote))); clear hG6 hL6))
        have hN : (lst D 64).length ≤ 64 := lst_few D 64
        obtain ⟨nw, hnw⟩ : ∃ nw, nw = (lst D 64).length := ⟨_, rfl⟩
        have HO := Lib.hid (And.intro H6.out.1 hnw)
        rw [← hnw] at hN ⊢
        clear hnw
        go_loopw [13, 79] (fun kv tv wx => ∃ (q j : Nat), q ≤ 64 ∧ tv = .int .i64 (q : Nat) ∧ kv = .int .i64 (j : Nat) ∧ Hid (j = (lst D q).length) ∧ j ≤ 64 ∧ Wrote Nil w6 wx) (fun _ tv _ => 64 - (intOf tv).toNat)
        case atStart => exact ⟨0, 0, Nat.zero_le _, rfl, rfl, Lib.hid rfl, Nat.zero_le _, Wrote.refl _ _⟩
        case round =>
          obtain ⟨q, j, hq, rfl, rfl, hj, hj64, hWx⟩ := hrel
          by_cases hql : q < 64
          · have hql' : (q : Int) < 64 := by omega
            have q0 : (0 : Int) ≤ q := by omega
            have c1 := rf_waits (cap := cr) (H6.out.2.1.after hWx) (by omega) (q : Int)
            obtain ⟨b, hb⟩ : ∃ b, b = waitS D (q : Int) := ⟨_, rfl⟩
            rw [← hb] at c1
            cases b with
            | false =>
              have hs := lst_no hb.symm
              have HS := Lib.hid (And.intro hs (And.intro hj hWx))
              clear hb hs hj hWx
              go_wp2_with (go_at_call 20; (with_reducible refine c1.mono ?_); rintro e w7 ⟨rfl, hW7⟩; have H7 := Lib.hid hW7; clear hW7)
              go_roundw
              case rel => exact ⟨q + 1, j, by omega, by simp, rfl, Lib.hid (by rw [HS.out.1]; exact HS.out.2.1.out), hj64, HS.out.2.2.nil H7.out⟩
              case measure => simp [intOf]; omega
            | true =>
              have hs := lst_yes hb.symm
              have hat := lst_at hb.symm hql
              have hjn : j < nw := by
                have := (List.getElem?_eq_some_iff.1 hat).1
                rw [hj.out, HO.out.2]
                exact this
              have hjn' : (j : Int) < nw := by omega
              have j0 : (0 : Int) ≤ j := by omega
              have hj2 : j ≤ 63 := by omega
              obtain ⟨g, hg, hcell, _⟩ := ownsRow_cell HO.out.1 (i := j) (by rw [← HO.out.2]; exact hjn)
              subst hg
              have hcell : w6.cell? ⟨g, j, none⟩ = some (.int .i64 (q : Nat)) := by
                rw [hcell, List.getElem?_map, hj.out, hat]
                rfl
              have HS := Lib.hid (And.intro hs (And.intro hj (And.intro hWx hcell)))
              clear hb hs hj hWx hcell hat
              go_wp2_with (go_at_call 20; (with_reducible refine c1.mono ?_); rintro e w7 ⟨rfl, hW7⟩; have hc7 := (HS.out.2.2.1.nil hW7).old HS.out.2.2.2; have H7 := Lib.hid hW7; clear hW7)
              go_roundw
              case rel => exact ⟨q + 1, j + 1, by omega, by simp, by simp, Lib.hid (by rw [HS.out.1, List.length_append, ← HS.out.2.1.out]; rfl), by omega, HS.out.2.2.1.nil H7.out⟩
              case measure => simp [intOf]; omega
          · obtain rfl : q = 64 := by omega
            have hjn : j = nw := by rw [hj.out, HO.out.2]
            subst hjn
            have c1 := H.out.2.2.1 _ (H6.out.2.2.nil hWx)
            have HW := Lib.hid (And.intro c1 (H6.out.2.2.nil hWx))
            clear hWx c1 hj
            go_wp2_with (go_at_call 8; (with_reducible refine HW.out.1.mono ?_); rintro e w8 ⟨rfl, hW8⟩; have H8 := Lib.hid hW8; clear hW8)
            go_ret
            exact ⟨rfl, HW.out.2.nil H8.out⟩
end Go.Proofs.YtihlokhejopphaaDoor
