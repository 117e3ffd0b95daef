/- The contract of package trace's Waiting. -/
import Derived.Test.YtihlokhejopphaaDoorTrHold
import Derived.Test.YtihlokhejopphaaDoorTrWaitM
import Derived.Test.YtihlokhejopphaaDoorTrSame
import Derived.Test.YtihlokhejopphaaDoorShelf
import Derived.OwnWalk
namespace Go.Proofs.YtihlokhejopphaaDoor
open Go.RowKit Go.Shelf Go.Maps
set_option linter.unusedVariables false

theorem info_int : (Tryd.prog.info? 3).map (fun i => (i.zero, i.size, i.bytes)) = some (some (.int .i64 0), 1, 8) := by kernel_rfl
theorem oneI (x : Int) : ∀ u ∈ [Value.int .i64 x], u.oneCell' = true := by intro u hu; rw [List.mem_singleton] at hu; subst hu; rfl

def WaitPost (w : World) (D : List Ent) (e : Ending) (w' : World) : Prop :=
  ∃ (xs : List Int) (dv : Value), e = .returned dv ∧ Grow 3 1 w w.heap.size w' xs.length (xs.map (Value.int .i64)) dv ∧ WaitL D xs ∧ xs.length ≤ 1000

/-- what was collected, sorted -/
theorem sort_any {w W : World} {base : Nat} {xs : List Int} {dv : Value} (hG : Grow 3 1 w base W xs.length (xs.map (Value.int .i64)) dv) (hn : xs.length ≤ 1000) :
    Calls Tryd.prog 32 #[dv] W fun e w' => e = .returned (.tuple #[]) ∧ Grow 3 1 w w.heap.size w' (xs.mergeSort fun x y => decide (x ≤ y)).length ((xs.mergeSort fun x y => decide (x ≤ y)).map (Value.int .i64)) dv := by
  have hlen : (xs.mergeSort fun x y => decide (x ≤ y)).length = xs.length := List.length_mergeSort xs
  rcases hG.own.2 with ⟨rfl, h0⟩ | ⟨g, cap, cur, rfl, hbase, hb, h1, h2, h3, h4⟩
  · have hx : xs = [] := List.eq_nil_of_length_eq_zero h0
    subst hx
    refine (Tryd.slices_Sort_int_none none 0 W).mono ?_
    rintro e w' ⟨rfl, rfl⟩
    refine ⟨rfl, ?_⟩
    simp only [List.mergeSort_nil]
    exact ⟨World.ownsRow_nil _ _ _ _, hG.wrote, Nat.le_trans hG.low hG.size, Nat.le_refl _⟩
  · refine (Tryd.slices_Sort_int g 0 cap xs W (holds_of_blockI hb (by simpa using h4)) (blk_lt hb) (by omega)).mono ?_
    rintro e w' ⟨rfl, n, os, rfl⟩
    have ho := ownsRow_sortedI (n := n) (os := os) (ss := xs) (ts := xs.mergeSort fun x y => decide (x ≤ y)) hlen hbase hb h1 h2 h3
    rw [← hlen] at ho
    have hlow := hG.low
    refine ⟨rfl, ?_⟩
    rw [hlen] at ho ⊢
    exact ⟨ownsRow_base ho hlow, hG.wrote.grown (grownBy_sortedI _) (fun k e hk => by cases e; omega), Nat.le_trans (Nat.le_trans hlow hG.size) (grownBy_sortedI (n := n) (os := os) _).size, Nat.le_refl _⟩

set_option maxRecDepth 100000 in
set_option maxHeartbeats 4000000 in
theorem tr_waiting {w : World} {sa : Option Addr} {n cap : Nat} {D : List Ent} (h : RecsAt eC 4 w sa n D) (hn : n ≤ 1000) (hwf : ∀ e ∈ D, (Lit.int .i64 e.t).wf = true) :
    Calls Tryd.prog 19 #[.slice sa n cap] w (WaitPost w D) := by
  have hmm := @run_makeMap Tryd.prog
  have hl := h.len
  obtain ⟨i0, hi, hz0, hz1, hz2⟩ := info_parts3 info_int
  have hown0 := World.ownsMap_made w Tryd.prog 3 (plainElem (H := Unit) Tryd.prog 4)
  have K := Maps.int_keyed Tryd.underlying3
  have hW0 := (Wrote.refl Nil w).alloc (.map #[] 0)
  have H := Lib.hid (And.intro h (And.intro hl (And.intro hwf (And.intro hown0 hW0))))
  clear h hl hwf hown0 hW0
  go_enter Tryd.func19, Tryd.ntmps19
  go_wp2
  go_loopw [11] (fun iv wr => ∃ (k m : Nat) (M : DataW Unit), k ≤ n ∧ iv = .int .i64 k ∧ wr.ownsMap Tryd.prog 3 (plainElem (H := Unit) Tryd.prog 4) w.heap.size m M ∧ m ≤ k ∧ SaysW M (D.take k) ∧ Wrote Nil w wr) (fun iv _ => n - (intOf iv).toNat)
  case atStart => exact ⟨0, 0, _, Nat.zero_le _, rfl, H.out.2.2.2.1, Nat.le_refl _, saysW_nil, H.out.2.2.2.2⟩
  case round =>
    obtain ⟨k, m, M, hk, rfl, hown, hmk, hsay, hW⟩ := hrel
    by_cases hlt : k < n
    · have hlt' : (k : Int) < n := by omega
      have k0 : (0 : Int) ≤ k := by omega
      obtain ⟨⟨x0, x1, x2, x3⟩, hx⟩ : ∃ x, D[k]? = some x := ⟨D[k]'(by rw [H.out.2.1]; exact hlt), List.getElem?_eq_getElem _⟩
      have hwx : (Lit.int .i64 x1).wf = true := H.out.2.2.1 _ (List.mem_of_getElem? hx)
      have hkl := keyOf_int_mk (P := Tryd.prog) (q := .i64) Tryd.underlying3 hwx
      rcases (H.out.1.after hW).at eC_ne with h0 | ⟨b, o, rfl, hc⟩
      · omega
      obtain ⟨e0, e1, e2, e3⟩ := cells_e hc hx
      have hown' := hown.alloc (.cells #[.int .i64 x0, .int .i64 x1, .int .i64 x2, .bool x3] 41)
      have hW' := hW.alloc (.cells #[.int .i64 x0, .int .i64 x1, .int .i64 x2, .bool x3] 41)
      have htk := take_step hx
      have hN := hown.lt
      have HS := Lib.hid (And.intro htk (And.intro hsay (And.intro hW' hown')))
      clear hc hx htk hsay hW hW' hown hown'
      by_cases q1 : x0 = 1
      · subst q1
        go_wp2_with (at_mapUpdate; refine wpList_mapUpdate_own _ rfl _ _ _ 73 rfl 3 4 K Tryd.underlying73 _ w.heap.size m _ rfl HS.out.2.2.2 (by unfold maxLen; omega) _ _ _ rfl rfl hkl _ [] (plainElem_bool Tryd.underlying4 true) ?_; intro w2 hown2 hg2; have H2 := Lib.hid (And.intro hown2 hg2); clear hown2 hg2)
        exact ⟨⟨k + 1, m + 1, _, by omega, by simp, H2.out.1, by omega, by rw [HS.out.1]; exact saysW_put (e := ⟨1, x1, x2, x3⟩) HS.out.2.1 rfl _, HS.out.2.2.1.grown H2.out.2 (fun k e hk => by cases e; omega)⟩, by simp [intOf]; omega⟩
      have t1 : ((x0 : Int) == 1) = false := by simpa using q1
      by_cases q4 : x0 = 4
      · subst q4
        clear t1
        go_wp2_with (at_delete; refine wpList_delete_own _ rfl _ _ 73 3 rfl 4 K Tryd.underlying73 _ w.heap.size m _ rfl HS.out.2.2.2 _ _ rfl hkl ?_; intro w2 hown2 hg2; have H2 := Lib.hid (And.intro hown2 hg2.grown); clear hown2 hg2)
        exact ⟨⟨k + 1, m, _, by omega, by simp, H2.out.1, by omega, by rw [HS.out.1]; exact saysW_del (e := ⟨4, x1, x2, x3⟩) HS.out.2.1 (.inl rfl), HS.out.2.2.1.grown H2.out.2 (fun k e hk => by cases e; omega)⟩, by simp [intOf]; omega⟩
      have t4 : ((x0 : Int) == 4) = false := by simpa using q4
      by_cases q5 : x0 = 5
      · subst q5
        clear t1 t4
        go_wp2_with (at_delete; refine wpList_delete_own _ rfl _ _ 73 3 rfl 4 K Tryd.underlying73 _ w.heap.size m _ rfl HS.out.2.2.2 _ _ rfl hkl ?_; intro w2 hown2 hg2; have H2 := Lib.hid (And.intro hown2 hg2.grown); clear hown2 hg2)
        exact ⟨⟨k + 1, m, _, by omega, by simp, H2.out.1, by omega, by rw [HS.out.1]; exact saysW_del (e := ⟨5, x1, x2, x3⟩) HS.out.2.1 (.inr (.inl rfl)), HS.out.2.2.1.grown H2.out.2 (fun k e hk => by cases e; omega)⟩, by simp [intOf]; omega⟩
      have t5 : ((x0 : Int) == 5) = false := by simpa using q5
      by_cases q8 : x0 = 8
      · subst q8
        clear t1 t4 t5
        go_wp2_with (at_delete; refine wpList_delete_own _ rfl _ _ 73 3 rfl 4 K Tryd.underlying73 _ w.heap.size m _ rfl HS.out.2.2.2 _ _ rfl hkl ?_; intro w2 hown2 hg2; have H2 := Lib.hid (And.intro hown2 hg2.grown); clear hown2 hg2)
        exact ⟨⟨k + 1, m, _, by omega, by simp, H2.out.1, by omega, by rw [HS.out.1]; exact saysW_del (e := ⟨8, x1, x2, x3⟩) HS.out.2.1 (.inr (.inr rfl)), HS.out.2.2.1.grown H2.out.2 (fun k e hk => by cases e; omega)⟩, by simp [intOf]; omega⟩
      have t8 : ((x0 : Int) == 8) = false := by simpa using q8
      have hst := saysW_stay (e := ⟨x0, x1, x2, x3⟩) HS.out.2.1 q1 q4 q5 q8
      have HT := Lib.hid hst
      clear q1 q4 q5 q8 hst
      go_wp2
      exact ⟨⟨k + 1, m, _, by omega, by simp, HS.out.2.2.2, by omega, by rw [HS.out.1]; exact HT.out, HS.out.2.2.1⟩, by simp [intOf]; omega⟩
    · obtain rfl : k = n := by omega
      rw [List.take_of_length_le (by rw [H.out.2.1]; exact Nat.le_refl _)] at hsay
      have HW := Lib.hid (And.intro hsay hW)
      have hN := hown.lt
      clear hsay hW
      go_wp2_with (at_range; refine wpList_range_own _ rfl _ 73 rfl 3 4 K Tryd.underlying73 _ w.heap.size m _ rfl hown ?_; intro w0 hrg0 hg0 hs0)
      go_frame
      have hRN : w.heap.size < wr.heap.size := hN
      generalize wr.heap.size = R at hrg0 hs0 hRN ⊢
      have hsz := hown.size_le
      have hG0 : Grow 3 1 w w0.heap.size w0 0 [] (.slice none 0 0) := by
        have h1 := HW.out.2.grown hg0 (fun k e => nomatch e)
        exact ⟨World.ownsRow_nil _ _ _ _, h1, Nat.le_refl _, h1.size⟩
      go_loopw [6] (fun dv wx => ∃ (left : Lit → Bool) (cnt : Nat) (xs : List Int) (dv0 : Value), dv0 = dv ∧ wx.ranges Tryd.prog 3 (plainElem (H := Unit) Tryd.prog 4) w.heap.size R m M left cnt ∧ xs.length + cnt ≤ m ∧ Grow 3 1 w w0.heap.size wx xs.length (xs.map (Value.int .i64)) dv ∧ Met M left xs) (fun _ wx => wx.rangeLeft w.heap.size R)
      case atStart => exact ⟨_, _, [], _, rfl, hrg0, by simpa using hsz, hG0, met_start M⟩
      case round =>
        obtain ⟨left, cnt, xs, dv, rfl, hrg, hcs, hG, hM⟩ := hrel
        go_wp2_with (at_next; refine wpList_next_ranges_iv _ rfl _ rfl 3 4 .i64 K Tryd.underlying3 w.heap.size R m M left cnt rfl hrg ?_ ?_)
        · intro hc0 hl0
          have c1 := sort_any hG (by omega)
          have hP := waitL_sort hM hl0 HW.out.1
          have hle : (xs.mergeSort fun x y => decide (x ≤ y)).length ≤ 1000 := by rw [List.length_mergeSort]; omega
          have HP := Lib.hid (And.intro hP hle)
          clear hG hM hP hle hl0 hrg hrg0 hG0 hg0 hs0
          go_wp2_with (go_at_call 32; (with_reducible refine c1.mono ?_); rintro e w1 ⟨rfl, hG1⟩; have HG1 := Lib.hid hG1; clear hG1)
          go_ret
          exact ⟨_, _, rfl, HG1.out, HP.out.1, HP.out.2⟩
        · intro x c w1 cnt1 hwx hlk y hat hrg1 hlt hg1 hs1 hen
          have hRb : R < w0.heap.size := by omega
          have hNb : w.heap.size < w0.heap.size := by omega
          have hG1 : Grow 3 1 w w0.heap.size w1 xs.length (xs.map (Value.int .i64)) dv := by
            refine ⟨ownsRow_keep hG.own fun j hj => hg1.block j (hG.lt j hj).2 fun e => ?_, hG.wrote.grown hg1 fun k e hk => ?_, Nat.le_trans hG.size hg1.size, hG.low⟩
            · have := (hG.lt j hj).1
              cases e
              omega
            · cases e
              omega
          have hG2 := hG1.after ((Wrote.refl Nil w1).alloc (.cells #[.int .i64 x] 3))
          have hm2 := met_step hM hwx hlk hat
          have hrg2 := hrg1.alloc (.cells #[.int .i64 x] 3)
          have hrl := hrg.left_eq
          have HG := Lib.hid (And.intro hG2 (And.intro hm2 (And.intro hrg2 hrl)))
          clear hG hG1 hG2 hm2 hM hat hlk hg1 hs1 hrg1 hrg2 hrg hrg0 hG0 hg0 hs0 hrl
          go_wp2_with (at_builtin; refine wpList_append_own _ rfl _ _ 46 rfl w0.heap.size 3 i0 (.int .i64 0) 1 8 Tryd.underlying46 hi hz0 hz1 hz2 rfl (by decide) dv xs.length (xs.map (Value.int .i64)) rfl HG.out.1.own ⟨w1.heap.size, 0, none⟩ 1 1 [.int .i64 x] rfl rfl (cell_one_new _ _ _) (oneI _) (by unfold maxLen; omega) (by omega) HG.out.1.size ?_; intro v' w6 hown hgrow hnil; have HG6 := Lib.hid (And.intro (HG.out.1.more hown hgrow) (HG.out.2.2.1.kept hgrow (fun e => by have := (HG.out.1.lt _ e.symm).1; omega) (fun e => by have := (HG.out.1.lt _ e.symm).1; omega))); clear hown hgrow hnil)
          go_roundw
          case rel => exact ⟨_, cnt1, xs ++ [x], _, rfl, HG6.out.2, by simp; omega, by simpa using HG6.out.1, HG.out.2.1⟩
          case measure => rw [HG6.out.2.left_eq, HG.out.2.2.2]; exact hlt
end Go.Proofs.YtihlokhejopphaaDoor
