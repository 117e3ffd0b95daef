/- The contracts of package event's write and Encode. -/
import Derived.Test.YtpmceoifppnnbaaEventDo
namespace Go.Proofs.Ytpmceoifppnnbaa
open Go.RowKit
set_option linter.unusedVariables false

def BytesPost (w0 : World) (base : Nat) (zs : List Int) (e : Ending) (w' : World) : Prop :=
  ∃ dv, e = .returned dv ∧ Grow 5 1 w0 base w' zs.length (zs.map (Value.int .u8)) dv
theorem bytes_end {w0 w : World} {base n m : Nat} {zs ns : List Int} {l : List Value} {dv : Value} (h : Grow 5 1 w0 base w (n + m) (l) dv) (hl : l = (zs ++ ns).map (Value.int .u8)) (hn : zs.length = n) (hm : ns.length = m) : BytesPost w0 base (zs ++ ns) (.returned dv) w :=
  ⟨dv, rfl, by rw [List.length_append, hn, hm, ← hl]; exact h⟩
theorem u8_one (l : List Int) : ∀ u ∈ l.map (Value.int .u8), u.oneCell' = true := by
  intro u hu
  simp only [List.mem_map] at hu
  obtain ⟨y, _, rfl⟩ := hu
  rfl

set_option maxHeartbeats 1000000 in
theorem ev_write {w0 w : World} {base : Nat} {zs : List Int} {dv : Value} (h : Grow 5 1 w0 base w zs.length (zs.map (Value.int .u8)) dv) (hn : zs.length ≤ 100000) (k t v : Int) (hr : rightE (k, t, v) = true) :
    Calls Try.prog 13 #[dv, .agg #[.int .i64 k, .int .i64 t, .int .i64 v]] w (BytesPost w0 base (zs ++ encE (k, t, v))) := by
  obtain ⟨i0, hi, hz0, hz1, hz2⟩ := info_parts3 info_u8
  rw [right_iff] at hr
  obtain ⟨n, hnn⟩ : ∃ n, n = zs.length := ⟨_, rfl⟩
  have hG := fun (o : Obj) (o' : Obj) => h.after (((Wrote.refl Nil w).alloc o).alloc o')
  rw [← hnn] at hn hG
  have HG := Lib.hid (And.intro hG hnn)
  clear hG hnn h
  by_cases q2 : k = 2
  · subst q2
    rw [show encE (2, t, v) = [4] from rfl]
    clear hr
    go_enter Try.func13, Try.ntmps13
    go_wp2_with (at_builtin; refine wpList_append_own _ rfl _ _ 22 rfl base 5 i0 (.int .u8 0) 1 1 Try.underlying22 hi hz0 hz1 hz2 rfl (by decide) dv n (zs.map (Value.int .u8)) rfl (HG.out.1 _ _).own ⟨w.heap.size + 1, 0, none⟩ 1 1 ([.int .u8 4]) rfl rfl (news_at _ _ _ _ (by simp)) (by simp [Value.oneCell']) (by unfold maxLen; omega) (by omega) (HG.out.1 _ _).size ?_; intro v' w6 hown hgrow hnil; have HG6 := Lib.hid ((HG.out.1 _ _).more hown hgrow); clear hown hgrow hnil)
    go_ret
    exact bytes_end (ns := [4]) HG6.out (by simp) HG.out.2.symm rfl
  have t2 : ((k : Int) == 2) = false := by simpa using q2
  have r0 : 0 ≤ t := by omega
  have r1 : t ≤ 31 := by omega
  by_cases q3 : k = 3
  · subst q3
    by_cases q4 : v = -1
    · subst q4
      rw [show encE (3, t, -1) = [8 * t + 5] from rfl]
      clear hr
      go_enter Try.func13, Try.ntmps13
      go_wp2_with (at_builtin; refine wpList_append_own _ rfl _ _ 22 rfl base 5 i0 (.int .u8 0) 1 1 Try.underlying22 hi hz0 hz1 hz2 rfl (by decide) dv n (zs.map (Value.int .u8)) rfl (HG.out.1 _ _).own ⟨w.heap.size + 1, 0, none⟩ 1 1 ([.int .u8 (t * 8 + 5)]) rfl rfl (news_at _ _ _ _ (by simp)) (by simp [Value.oneCell']) (by unfold maxLen; omega) (by omega) (HG.out.1 _ _).size ?_; intro v' w6 hown hgrow hnil; have HG6 := Lib.hid ((HG.out.1 _ _).more hown hgrow); clear hown hgrow hnil)
      go_ret
      exact bytes_end (ns := [8 * t + 5]) HG6.out (by simp [Int.mul_comm]) HG.out.2.symm rfl
    · have t4 : ((v : Int) == -1) = false := by simpa using q4
      have v0 : 0 ≤ v := by omega
      have v1 : v ≤ 255 := by omega
      rw [show encE (3, t, v) = [8 * t + 6, v] by unfold encE; simp only; rw [if_neg (by decide), if_neg (by decide), if_neg (by decide), if_neg (by omega)]]
      clear hr q4
      go_enter Try.func13, Try.ntmps13
      go_wp2_with (at_builtin; refine wpList_append_own _ rfl _ _ 22 rfl base 5 i0 (.int .u8 0) 1 1 Try.underlying22 hi hz0 hz1 hz2 rfl (by decide) dv n (zs.map (Value.int .u8)) rfl (HG.out.1 _ _).own ⟨w.heap.size + 1, 0, none⟩ 2 2 ([.int .u8 (t * 8 + 6), .int .u8 v]) rfl rfl (news_at _ _ _ _ (by simp)) (by simp [Value.oneCell']) (by unfold maxLen; omega) (by omega) (HG.out.1 _ _).size ?_; intro v' w6 hown hgrow hnil; have HG6 := Lib.hid ((HG.out.1 _ _).more hown hgrow); clear hown hgrow hnil)
      go_ret
      exact bytes_end (ns := [8 * t + 6, v]) HG6.out (by simp [Int.mul_comm]) HG.out.2.symm rfl
  have t3 : ((k : Int) == 3) = false := by simpa using q3
  by_cases q4 : k = 4
  · subst q4
    rw [show encE (4, t, v) = [8 * t + 7] from rfl]
    clear hr
    go_enter Try.func13, Try.ntmps13
    go_wp2_with (at_builtin; refine wpList_append_own _ rfl _ _ 22 rfl base 5 i0 (.int .u8 0) 1 1 Try.underlying22 hi hz0 hz1 hz2 rfl (by decide) dv n (zs.map (Value.int .u8)) rfl (HG.out.1 _ _).own ⟨w.heap.size + 1, 0, none⟩ 1 1 ([.int .u8 (t * 8 + 7)]) rfl rfl (news_at _ _ _ _ (by simp)) (by simp [Value.oneCell']) (by unfold maxLen; omega) (by omega) (HG.out.1 _ _).size ?_; intro v' w6 hown hgrow hnil; have HG6 := Lib.hid ((HG.out.1 _ _).more hown hgrow); clear hown hgrow hnil)
    go_ret
    exact bytes_end (ns := [8 * t + 7]) HG6.out (by simp [Int.mul_comm]) HG.out.2.symm rfl
  · have t4 : ((k : Int) == 4) = false := by simpa using q4
    obtain rfl : k = 1 := by omega
    rw [show encE (1, t, v) = [8 * t] from rfl]
    clear hr
    go_enter Try.func13, Try.ntmps13
    go_wp2_with (at_builtin; refine wpList_append_own _ rfl _ _ 22 rfl base 5 i0 (.int .u8 0) 1 1 Try.underlying22 hi hz0 hz1 hz2 rfl (by decide) dv n (zs.map (Value.int .u8)) rfl (HG.out.1 _ _).own ⟨w.heap.size + 1, 0, none⟩ 1 1 ([.int .u8 (t * 8)]) rfl rfl (news_at _ _ _ _ (by simp)) (by simp [Value.oneCell']) (by unfold maxLen; omega) (by omega) (HG.out.1 _ _).size ?_; intro v' w6 hown hgrow hnil; have HG6 := Lib.hid ((HG.out.1 _ _).more hown hgrow); clear hown hgrow hnil)
    go_ret
    exact bytes_end (ns := [8 * t]) HG6.out (by simp [Int.mul_comm]) HG.out.2.symm rfl

/-! ### Encode -/
def EncPost (w : World) (D : List Ev) (e : Ending) (w' : World) : Prop :=
  (badAt D = D.length ∧ ∃ dv, e = .returned (.tuple #[dv, .int .i64 (D.length : Nat), .int .i64 0]) ∧ Grow 5 1 w w.heap.size w' (encs D).length ((encs D).map (Value.int .u8)) dv) ∨
  (badAt D < D.length ∧ e = .returned (.tuple #[.slice none 0 0, .int .i64 (badAt D : Nat), .int .i64 4]) ∧ Wrote Nil w w')
structure EncSt (w0 w : World) (D : List Ev) (k : Nat) (dv : Value) : Prop where
  good : k ≤ badAt D
  grow : Grow 5 1 w0 w0.heap.size w (encs (D.take k)).length ((encs (D.take k)).map (Value.int .u8)) dv

theorem encst_step {w0 w w' : World} {D : List Ev} {k : Nat} {x : Ev} {dv v' : Value} (h : EncSt w0 w D k dv) (hx : D[k]? = some x) (hr : rightE x = true)
    (hg : Grow 5 1 w0 w0.heap.size w' (encs (D.take k) ++ encE x).length ((encs (D.take k) ++ encE x).map (Value.int .u8)) v') : EncSt w0 w' D (k + 1) v' :=
  ⟨badAt_step hx h.good hr, by rw [take_snoc' hx, encs_snoc]; exact hg⟩
theorem encst_few {w0 w : World} {D : List Ev} {k n : Nat} {dv : Value} (h : EncSt w0 w D k dv) (hn : D.length = n) (hm : n ≤ 1000) : (encs (D.take k)).length ≤ 100000 := by
  have h1 := encs_len (D.take k)
  have h2 := List.length_take_le k D
  have h3 := h.good
  have h4 := badAt_le D
  omega
theorem three_old {w w1 : World} {a b c : Value} {t : TypeId} (h : Wrote Nil (w.alloc (.cells #[a, b, c] t)) w1) :
    w1.cell? ⟨w.heap.size, 0, none⟩ = some a ∧ w1.cell? ⟨w.heap.size, 1, none⟩ = some b ∧ w1.cell? ⟨w.heap.size, 2, none⟩ = some c :=
  ⟨h.old (by simp), h.old (by simp), h.old (by simp)⟩

set_option maxHeartbeats 1000000 in
theorem ev_encode {w : World} {sa : Option Addr} {n cap : Nat} {D : List Ev} (h : RecsAt evCells 3 w sa n D) (hm : n ≤ 1000) :
    Calls Try.prog 10 #[.slice sa n cap] w (EncPost w D) := by
  have hat := h.at ev_ne
  have hl := h.len
  have h0 : EncSt w w D 0 (.slice none 0 0) := ⟨Nat.zero_le _, grow_here _ _ _⟩
  have HL := Lib.hid hl
  clear h hl
  go_enter Try.func10, Try.ntmps10
  go_wp2
  go_loopw [5, 10] (fun bv iv wr => ∃ (k : Nat) (dv0 : Value), dv0 = bv ∧ k ≤ n ∧ iv = .int .i64 k ∧ EncSt w wr D k bv) (fun _ iv _ => n - (intOf iv).toNat)
  case atStart => exact ⟨0, _, rfl, Nat.zero_le _, rfl, h0⟩
  case round =>
    clear h0
    obtain ⟨k, bv, rfl, hk, rfl, hE⟩ := hrel
    by_cases hlt : k < n
    · rcases hat with h0 | ⟨b, o, rfl, hc⟩
      · omega
      obtain ⟨⟨x0, x1, x2⟩, hx⟩ : ∃ x, D[k]? = some x := ⟨D[k]'(by have := HL.out; omega), List.getElem?_eq_getElem _⟩
      have e0 : wr.cell? ⟨b, o + k * 3, none⟩ = some (.int .i64 x0) := hE.grow.wrote.old (hc k _ hx 0 _ rfl)
      have e1 : wr.cell? ⟨b, o + k * 3 + 1, none⟩ = some (.int .i64 x1) := hE.grow.wrote.old (hc k _ hx 1 _ rfl)
      have e2 : wr.cell? ⟨b, o + k * 3 + 2, none⟩ = some (.int .i64 x2) := hE.grow.wrote.old (hc k _ hx 2 _ rfl)
      obtain ⟨B, hB⟩ : ∃ B, B = rightE (x0, x1, x2) := ⟨_, rfl⟩
      have c1 : Calls Try.prog 9 #[.agg #[.int .i64 x0, .int .i64 x1, .int .i64 x2]] (wr.alloc (.cells #[.int .i64 x0, .int .i64 x1, .int .i64 x2] 29)) fun e w' => e = .returned (.bool B) ∧ Wrote Nil (wr.alloc (.cells #[.int .i64 x0, .int .i64 x1, .int .i64 x2] 29)) w' := by
        rw [hB]
        exact ev_right _ _ _ _
      have HE := Lib.hid (And.intro hE (And.intro hx (And.intro hc hB)))
      clear hE hx hc hB
      cases B
      · go_wp2_with (first
          | (go_at_call 9; with_reducible refine c1.mono ?_; rintro e w1 ⟨rfl, hW1⟩; have HW1 := Lib.hid hW1; clear hW1))
        have hP : EncPost w D (.returned (.tuple #[.slice none 0 0, .int .i64 (k : Nat), .int .i64 4])) w1 := by
          have hs := badAt_stop HE.out.2.1 HE.out.1.good HE.out.2.2.2.symm
          refine .inr ⟨by have := HL.out; omega, by rw [hs], (HE.out.1.grow.wrote.alloc _).nil HW1.out⟩
        have HP := Lib.hid hP
        clear hP
        go_wp2
        go_ret3
        exact HP.out
      · go_wp2_with (first
          | (go_at_call 9; with_reducible refine c1.mono ?_; rintro e w1 ⟨rfl, hW1⟩; obtain ⟨f0, f1, f2⟩ := three_old hW1; have HW1 := Lib.hid hW1; clear hW1)
          | (go_at_call 13; with_reducible refine (ev_write ((HE.out.1.grow.after ((Wrote.refl Nil wr).alloc _)).after HW1.out) (encst_few HE.out.1 HL.out hm) x0 x1 x2 HE.out.2.2.2.symm).mono ?_; intro e w2 h2; unfold BytesPost at h2; obtain ⟨dv2, rfl, hG2⟩ := h2; have HG2 := Lib.hid hG2; clear hG2))
        go_roundw
        case rel => exact ⟨k + 1, _, rfl, by omega, by go_num, encst_step HE.out.1 HE.out.2.1 HE.out.2.2.2.symm HG2.out⟩
        case measure => simp [intOf]; omega
    · obtain rfl : k = n := by omega
      have hP : EncPost w D (.returned (.tuple #[bv, .int .i64 (k : Nat), .int .i64 0])) wr := by
        have hg := hE.good
        have hle := badAt_le D
        have hL := HL.out
        have hG := hE.grow
        rw [List.take_of_length_le (by omega)] at hG
        exact .inl ⟨by omega, bv, by rw [hL], hG⟩
      have HP := Lib.hid hP
      clear hP hE
      go_wp2
      go_ret3
      exact HP.out
end Go.Proofs.Ytpmceoifppnnbaa
