/- The contracts of the document's answers on events: Right, Decode. -/
import Derived.Test.YtpmceoifppnnbaaEventDo
import Derived.Laws.BytesArg
import Derived.Laws.Strings
namespace Go.Proofs.Ytpmceoifppnnbaa
open Go.RowKit
set_option linter.unusedVariables false

theorem info_rev : (Try.prog.info? 30).map (fun i => (i.zero, i.size, i.bytes)) = some (some (.agg #[.int .i64 0, .int .i64 0, .int .i64 0]), 3, 24) := by kernel_rfl

structure RefSt (w0 w : World) (zs : List Int) (k : Nat) (D : List Ev) (dv : Value) : Prop where
  grow : Grow 30 3 w0 w0.heap.size w D.length (D.flatMap evCells) dv
  evs : evs zs = D ++ evs (zs.drop k)
  few : D.length ≤ k
theorem RefSt.step {w0 w w' : World} {zs : List Int} {k sz : Nat} {D : List Ev} {x : Ev} {dv v' : Value} (h : RefSt w0 w zs k D dv) (hk : k < zs.length)
    (hx : x = firstE (zs.drop k)) (hs : sz = sizeE (zs.drop k)) (hg : Grow 30 3 w0 w0.heap.size w' (D.length + 1) (D.flatMap evCells ++ evCells x) v') :
    RefSt w0 w' zs (k + sz) (D ++ [x]) v' := by
  have hne : zs.drop k ≠ [] := by intro h; have := congrArg List.length h; simp at this; omega
  have h1 := sizeE_pos (zs.drop k)
  refine ⟨by simpa using hg, ?_, by have := h.few; simp; omega⟩
  rw [h.evs, evs_cons _ hne, ← hx, ← hs, List.drop_drop]
  simp
def RefPost (w : World) (zs : List Int) (e : Ending) (w' : World) : Prop :=
  ∃ dv, e = .returned dv ∧ Grow 30 3 w w.heap.size w' (evs zs).length ((evs zs).flatMap evCells) dv

theorem drop_at {zs : List Int} {k : Nat} {x : Int} (h : zs[k]? = some x) : zs.drop k = x :: zs.drop (k + 1) := by
  obtain ⟨hk, rfl⟩ := List.getElem?_eq_some_iff.1 h
  exact List.drop_eq_getElem_cons hk
theorem str_at {zs : List Int} (hb : Bytes zs) {k : Nat} {x : Int} (h : zs[k]? = some x) (hk : k < (strOfNums zs).size) : (((strOfNums zs)[k]'hk).toNat : Int) = x := by
  obtain ⟨hl, rfl⟩ := List.getElem?_eq_some_iff.1 h
  have := hb zs[k] (List.getElem_mem hl)
  have e : (strOfNums zs)[k]'hk = UInt8.ofNat (zs[k]).toNat := by
    show ((zs.map fun n => UInt8.ofNat n.toNat).toArray)[k]'(by simpa using hl) = _
    simp
  rw [e, UInt8.toNat_ofNat']
  omega

set_option maxHeartbeats 2000000 in
theorem ref_decode {w : World} {zs : List Int} (hb : Bytes zs) (s : ByteArray) (hs : s = strOfNums zs) (hm : zs.length ≤ 1000) :
    Calls Try.prog 8 #[.string s] w (RefPost w zs) := by
  obtain ⟨i0, hi, hz0, hz1, hz2⟩ := info_parts3 info_rev
  have h0 : RefSt w w zs 0 [] (.slice none 0 0) := ⟨grow_here _ _ _, rfl, Nat.le_refl _⟩
  have hsz : s.size = zs.length := by rw [hs, strOfNums_size]
  obtain ⟨n, hn⟩ : ∃ n, n = zs.length := ⟨_, rfl⟩
  have hget : ∀ (k : Nat) (x : Int), zs[k]? = some x → ∀ hk : k < s.size, ((s[k]'hk).toNat : Int) = x := by subst hs; exact fun k x h hk => str_at hb h hk
  rw [← hn] at hsz hm
  have hm' : s.size ≤ 1000 := by omega
  have HS := Lib.hid (And.intro hsz (And.intro hn (And.intro hget hb)))
  clear hs hsz hn hget hb
  go_enter Try.func8, Try.ntmps8
  go_wp2
  go_loopw [3, 4] (fun dv iv wr => ∃ (k : Nat) (D : List Ev) (dv0 : Value), dv0 = dv ∧ k ≤ s.size ∧ iv = .int .i64 k ∧ RefSt w wr zs k D dv) (fun _ iv _ => s.size - (intOf iv).toNat)
  case atStart => exact ⟨0, [], _, rfl, Nat.zero_le _, rfl, h0⟩
  case round =>
    clear h0
    obtain ⟨k, D, dv, rfl, hk, rfl, hR⟩ := hrel
    by_cases hlt : k < s.size
    · obtain ⟨x, hx⟩ : ∃ x, zs[k]? = some x := ⟨zs[k]'(by have := HS.out; omega), List.getElem?_eq_getElem _⟩
      have hg := HS.out.2.2.1 k x hx hlt
      obtain ⟨x0, x1⟩ := HS.out.2.2.2 x (List.mem_of_getElem? hx)
      have hlt' : (k : Int) < s.size := by omega
      have HR := Lib.hid (And.intro hR hx)
      clear hR hx
      go_wp2
      go_quiet (fail)
      have hY := fun o : Obj => (HR.out.1.grow.after ((Wrote.refl Nil wr).drewN nq)).after ((Wrote.refl Nil _).alloc o)
      have hDk := HR.out.1.few
      have HY := Lib.hid hY
      clear hY
      generalize wr.drewN nq = Y at HY ⊢
      have hcase : x % 8 < 4 ∨ x % 8 = 4 ∨ x % 8 = 5 ∨ x % 8 = 6 ∨ x % 8 = 7 := by omega
      rcases hcase with q | q | q | q | q
      · have d4 : decide (x % 8 < 4) = true := by simpa using q
        have H : Hid (firstE (zs.drop k) = (1, x / 8, 0) ∧ sizeE (zs.drop k) = 1) := Lib.hid (by rw [drop_at HR.out.2]; exact first_lt q)
        clear q
        go_wp2_with (at_builtin; refine wpList_append_own _ rfl _ _ 26 rfl w.heap.size 30 i0 (.agg #[.int .i64 0, .int .i64 0, .int .i64 0]) 3 24 Try.underlying26 hi hz0 hz1 hz2 rfl (by decide) dv D.length (D.flatMap evCells) rfl (HY.out _).own ⟨Y.heap.size, 0, none⟩ 1 1 (evCells (1, x / 8, 0)) rfl rfl (news_at Y _ _ _ rfl) (ev_one _) (by unfold maxLen; omega) (by omega) (HY.out _).size ?_; intro v' w6 hown hgrow hnil; have HG6 := Lib.hid ((HY.out _).more hown hgrow); clear hown hgrow hnil)
        go_roundw
        case rel => exact ⟨k + 1, D ++ [(1, x / 8, 0)], _, rfl, by omega, by go_num, HR.out.1.step (by have := HS.out; omega) H.out.1.symm H.out.2.symm HG6.out⟩
        case measure => simp [intOf]; omega
      · have d4 : decide (x % 8 < 4) = false := by simp; omega
        have t4 : ((x % 8 : Int) == 4) = true := by simp; omega
        have H : Hid (firstE (zs.drop k) = (2, 0, 0) ∧ sizeE (zs.drop k) = 1) := Lib.hid (by rw [drop_at HR.out.2]; exact first_4 q)
        clear q
        go_wp2_with (at_builtin; refine wpList_append_own _ rfl _ _ 26 rfl w.heap.size 30 i0 (.agg #[.int .i64 0, .int .i64 0, .int .i64 0]) 3 24 Try.underlying26 hi hz0 hz1 hz2 rfl (by decide) dv D.length (D.flatMap evCells) rfl (HY.out _).own ⟨Y.heap.size, 0, none⟩ 1 1 (evCells (2, 0, 0)) rfl rfl (news_at Y _ _ _ rfl) (ev_one _) (by unfold maxLen; omega) (by omega) (HY.out _).size ?_; intro v' w6 hown hgrow hnil; have HG6 := Lib.hid ((HY.out _).more hown hgrow); clear hown hgrow hnil)
        go_roundw
        case rel => exact ⟨k + 1, D ++ [(2, 0, 0)], _, rfl, by omega, by go_num, HR.out.1.step (by have := HS.out; omega) H.out.1.symm H.out.2.symm HG6.out⟩
        case measure => simp [intOf]; omega
      · have d4 : decide (x % 8 < 4) = false := by simp; omega
        have t4 : ((x % 8 : Int) == 4) = false := by simp; omega
        have t5 : ((x % 8 : Int) == 5) = true := by simp; omega
        have H : Hid (firstE (zs.drop k) = (3, x / 8, -1) ∧ sizeE (zs.drop k) = 1) := Lib.hid (by rw [drop_at HR.out.2]; exact first_5 q)
        clear q
        go_wp2_with (at_builtin; refine wpList_append_own _ rfl _ _ 26 rfl w.heap.size 30 i0 (.agg #[.int .i64 0, .int .i64 0, .int .i64 0]) 3 24 Try.underlying26 hi hz0 hz1 hz2 rfl (by decide) dv D.length (D.flatMap evCells) rfl (HY.out _).own ⟨Y.heap.size, 0, none⟩ 1 1 (evCells (3, x / 8, -1)) rfl rfl (news_at Y _ _ _ rfl) (ev_one _) (by unfold maxLen; omega) (by omega) (HY.out _).size ?_; intro v' w6 hown hgrow hnil; have HG6 := Lib.hid ((HY.out _).more hown hgrow); clear hown hgrow hnil)
        go_roundw
        case rel => exact ⟨k + 1, D ++ [(3, x / 8, -1)], _, rfl, by omega, by go_num, HR.out.1.step (by have := HS.out; omega) H.out.1.symm H.out.2.symm HG6.out⟩
        case measure => simp [intOf]; omega
      · have d4 : decide (x % 8 < 4) = false := by simp; omega
        have t4 : ((x % 8 : Int) == 4) = false := by simp; omega
        have t5 : ((x % 8 : Int) == 5) = false := by simp; omega
        have t6 : ((x % 8 : Int) == 6) = true := by simp; omega
        by_cases hnx : k + 1 < s.size
        · obtain ⟨y, hy⟩ : ∃ y, zs[k + 1]? = some y := ⟨zs[k + 1]'(by have := HS.out; omega), List.getElem?_eq_getElem _⟩
          have hg2 := HS.out.2.2.1 (k + 1) y hy hnx
          obtain ⟨y0, y1⟩ := HS.out.2.2.2 y (List.mem_of_getElem? hy)
          have hnx' : (k : Int) + 1 < s.size := by omega
          have H : Hid (firstE (zs.drop k) = (3, x / 8, y) ∧ sizeE (zs.drop k) = 2) := Lib.hid (by rw [drop_at HR.out.2, drop_at hy]; exact first_6b q)
          clear q hy
          go_wp2_with (at_builtin; refine wpList_append_own _ rfl _ _ 26 rfl w.heap.size 30 i0 (.agg #[.int .i64 0, .int .i64 0, .int .i64 0]) 3 24 Try.underlying26 hi hz0 hz1 hz2 rfl (by decide) dv D.length (D.flatMap evCells) rfl (HY.out _).own ⟨Y.heap.size, 0, none⟩ 1 1 (evCells (3, x / 8, y)) rfl rfl (news_at Y _ _ _ rfl) (ev_one _) (by unfold maxLen; omega) (by omega) (HY.out _).size ?_; intro v' w6 hown hgrow hnil; have HG6 := Lib.hid ((HY.out _).more hown hgrow); clear hown hgrow hnil)
          go_roundw
          case rel => exact ⟨k + 2, D ++ [(3, x / 8, y)], _, rfl, by omega, by go_num, HR.out.1.step (by have := HS.out; omega) H.out.1.symm H.out.2.symm HG6.out⟩
          case measure => simp [intOf]; omega
        · have hnx' : decide ((k : Int) + 1 < s.size) = false := by simp; omega
          have hnil : zs.drop (k + 1) = [] := List.drop_eq_nil_of_le (by have := HS.out; omega)
          have H : Hid (firstE (zs.drop k) = (3, x / 8, 0) ∧ sizeE (zs.drop k) = 1) := Lib.hid (by rw [drop_at HR.out.2, hnil]; exact first_6a q)
          clear q hnil
          go_wp2_with (at_builtin; refine wpList_append_own _ rfl _ _ 26 rfl w.heap.size 30 i0 (.agg #[.int .i64 0, .int .i64 0, .int .i64 0]) 3 24 Try.underlying26 hi hz0 hz1 hz2 rfl (by decide) dv D.length (D.flatMap evCells) rfl (HY.out _).own ⟨Y.heap.size, 0, none⟩ 1 1 (evCells (3, x / 8, 0)) rfl rfl (news_at Y _ _ _ rfl) (ev_one _) (by unfold maxLen; omega) (by omega) (HY.out _).size ?_; intro v' w6 hown hgrow hnil; have HG6 := Lib.hid ((HY.out _).more hown hgrow); clear hown hgrow hnil)
          go_roundw
          case rel => exact ⟨k + 1, D ++ [(3, x / 8, 0)], _, rfl, by omega, by go_num, HR.out.1.step (by have := HS.out; omega) H.out.1.symm H.out.2.symm HG6.out⟩
          case measure => simp [intOf]; omega
      · have d4 : decide (x % 8 < 4) = false := by simp; omega
        have t4 : ((x % 8 : Int) == 4) = false := by simp; omega
        have t5 : ((x % 8 : Int) == 5) = false := by simp; omega
        have t6 : ((x % 8 : Int) == 6) = false := by simp; omega
        have H : Hid (firstE (zs.drop k) = (4, x / 8, 0) ∧ sizeE (zs.drop k) = 1) := Lib.hid (by rw [drop_at HR.out.2]; exact first_7 q)
        clear q
        go_wp2_with (at_builtin; refine wpList_append_own _ rfl _ _ 26 rfl w.heap.size 30 i0 (.agg #[.int .i64 0, .int .i64 0, .int .i64 0]) 3 24 Try.underlying26 hi hz0 hz1 hz2 rfl (by decide) dv D.length (D.flatMap evCells) rfl (HY.out _).own ⟨Y.heap.size, 0, none⟩ 1 1 (evCells (4, x / 8, 0)) rfl rfl (news_at Y _ _ _ rfl) (ev_one _) (by unfold maxLen; omega) (by omega) (HY.out _).size ?_; intro v' w6 hown hgrow hnil; have HG6 := Lib.hid ((HY.out _).more hown hgrow); clear hown hgrow hnil)
        go_roundw
        case rel => exact ⟨k + 1, D ++ [(4, x / 8, 0)], _, rfl, by omega, by go_num, HR.out.1.step (by have := HS.out; omega) H.out.1.symm H.out.2.symm HG6.out⟩
        case measure => simp [intOf]; omega
    · have hE : evs zs = D := by
        have h1 := hR.evs
        have h2 : zs.drop k = [] := List.drop_eq_nil_of_le (by have := HS.out; omega)
        rwa [h2, show evs [] = [] from rfl, List.append_nil] at h1
      have hP : RefPost w zs (.returned dv) wr := ⟨dv, rfl, by rw [hE]; exact hR.grow⟩
      have HP := Lib.hid hP
      clear hE hP hR
      go_wp2
      go_ret
      exact HP.out

set_option maxHeartbeats 2000000 in
theorem ref_right (w : World) (k t v : Int) :
    Calls Try.prog 11 #[.agg #[.int .i64 k, .int .i64 t, .int .i64 v]] w fun e w' => e = .returned (.bool (rightE (k, t, v))) ∧ Wrote Nil w w' := by
  obtain ⟨R, hR⟩ : ∃ R, R = rightE (k, t, v) := ⟨_, rfl⟩
  have hi := right_iff k t v
  rw [← hR] at hi ⊢
  by_cases q2 : k = 2
  · subst q2
    by_cases q6 : t = 0
    · subst q6
      by_cases q7 : v = 0
      · subst q7
        have H : Hid (R = true) := Lib.hid (by rw [hi]; omega)
        clear hi hR
        go_enter Try.func11, Try.ntmps11
        go_wp2
        go_ret
        exact ⟨ret_truth H.out.symm, (Wrote.refl _ _).alloc _⟩
      · have t7 : ((v : Int) == 0) = false := by simpa using q7
        have H : Hid (R = false) := Lib.hid (by rw [Bool.eq_false_iff]; intro h; rw [hi] at h; omega)
        clear hi hR
        go_enter Try.func11, Try.ntmps11
        go_wp2
        go_ret
        exact ⟨ret_truth H.out.symm, (Wrote.refl _ _).alloc _⟩
    · have t6 : ((t : Int) == 0) = false := by simpa using q6
      have H : Hid (R = false) := Lib.hid (by rw [Bool.eq_false_iff]; intro h; rw [hi] at h; omega)
      clear hi hR
      go_enter Try.func11, Try.ntmps11
      go_wp2
      go_ret
      exact ⟨ret_truth H.out.symm, (Wrote.refl _ _).alloc _⟩
  have t2 : ((k : Int) == 2) = false := by simpa using q2
  by_cases a1 : k < 1
  · have d1 : decide (k < 1) = true := by simpa using a1
    have H : Hid (R = false) := Lib.hid (by rw [Bool.eq_false_iff]; intro h; rw [hi] at h; omega)
    clear hi hR
    go_enter Try.func11, Try.ntmps11
    go_wp2
    go_ret
    exact ⟨ret_truth H.out.symm, (Wrote.refl _ _).alloc _⟩
  have d1 : decide (k < 1) = false := by simpa using a1
  by_cases a2 : 4 < k
  · have d2 : decide (4 < k) = true := by simpa using a2
    have H : Hid (R = false) := Lib.hid (by rw [Bool.eq_false_iff]; intro h; rw [hi] at h; omega)
    clear hi hR
    go_enter Try.func11, Try.ntmps11
    go_wp2
    go_ret
    exact ⟨ret_truth H.out.symm, (Wrote.refl _ _).alloc _⟩
  have d2 : decide (4 < k) = false := by simpa using a2
  by_cases a3 : t < 0
  · have d3 : decide (t < 0) = true := by simpa using a3
    have H : Hid (R = false) := Lib.hid (by rw [Bool.eq_false_iff]; intro h; rw [hi] at h; omega)
    clear hi hR
    go_enter Try.func11, Try.ntmps11
    go_wp2
    go_ret
    exact ⟨ret_truth H.out.symm, (Wrote.refl _ _).alloc _⟩
  have d3 : decide (t < 0) = false := by simpa using a3
  by_cases a4 : 31 < t
  · have d4 : decide (31 < t) = true := by simpa using a4
    have H : Hid (R = false) := Lib.hid (by rw [Bool.eq_false_iff]; intro h; rw [hi] at h; omega)
    clear hi hR
    go_enter Try.func11, Try.ntmps11
    go_wp2
    go_ret
    exact ⟨ret_truth H.out.symm, (Wrote.refl _ _).alloc _⟩
  have d4 : decide (31 < t) = false := by simpa using a4
  by_cases q3 : k = 3
  · subst q3
    by_cases q4 : -1 ≤ v
    · by_cases q5 : v ≤ 255
      · have H : Hid (R = true) := Lib.hid (by rw [hi]; omega)
        clear hi hR
        go_enter Try.func11, Try.ntmps11
        go_wp2
        go_ret
        exact ⟨ret_truth H.out.symm, (Wrote.refl _ _).alloc _⟩
      · have d5 : decide (v ≤ 255) = false := by simpa using q5
        have H : Hid (R = false) := Lib.hid (by rw [Bool.eq_false_iff]; intro h; rw [hi] at h; omega)
        clear hi hR
        go_enter Try.func11, Try.ntmps11
        go_wp2
        go_ret
        exact ⟨ret_truth H.out.symm, (Wrote.refl _ _).alloc _⟩
    · have d5 : decide (-1 ≤ v) = false := by simpa using q4
      have H : Hid (R = false) := Lib.hid (by rw [Bool.eq_false_iff]; intro h; rw [hi] at h; omega)
      clear hi hR
      go_enter Try.func11, Try.ntmps11
      go_wp2
      go_ret
      exact ⟨ret_truth H.out.symm, (Wrote.refl _ _).alloc _⟩
  have t3 : ((k : Int) == 3) = false := by simpa using q3
  by_cases q7 : v = 0
  · subst q7
    have H : Hid (R = true) := Lib.hid (by rw [hi]; omega)
    clear hi hR
    go_enter Try.func11, Try.ntmps11
    go_wp2
    go_ret
    exact ⟨ret_truth H.out.symm, (Wrote.refl _ _).alloc _⟩
  · have t7 : ((v : Int) == 0) = false := by simpa using q7
    have H : Hid (R = false) := Lib.hid (by rw [Bool.eq_false_iff]; intro h; rw [hi] at h; omega)
    clear hi hR
    go_enter Try.func11, Try.ntmps11
    go_wp2
    go_ret
    exact ⟨ret_truth H.out.symm, (Wrote.refl _ _).alloc _⟩
end Go.Proofs.Ytpmceoifppnnbaa
