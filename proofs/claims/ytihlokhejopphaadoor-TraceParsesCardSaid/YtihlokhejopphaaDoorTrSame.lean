/- The contracts of the law's Ref and Same, and of package trace's Visible. -/
import Derived.Test.YtihlokhejopphaaDoorTrText
namespace Go.Proofs.YtihlokhejopphaaDoor
open Go.RowKit Go.BigFrame
set_option linter.unusedVariables false

def visE (D : List Ent) : List Ent := (D.filter fun e => !(e.k == 2 || e.k == 3)).map fun e => ⟨e.k, e.t, e.n, false⟩
theorem take_step {D : List Ent} {k : Nat} {x : Ent} (hx : D[k]? = some x) : D.take (k + 1) = D.take k ++ [x] := by
  have hk := (List.getElem?_eq_some_iff.1 hx).1
  have he := (List.getElem?_eq_some_iff.1 hx).2
  rw [List.take_succ_eq_append_getElem hk, he]
theorem flat_step {D : List Ent} {k : Nat} {x : Ent} (f : Ent → List Value) (hx : D[k]? = some x) : (D.take (k + 1)).flatMap f = (D.take k).flatMap f ++ f x := by
  rw [take_step hx]; simp
theorem vis_hide {D : List Ent} {k : Nat} {x : Ent} (hx : D[k]? = some x) (h : (x.k == 2 || x.k == 3) = true) : visE (D.take (k + 1)) = visE (D.take k) := by
  rw [take_step hx]; simp only [visE, List.filter_append, List.filter_cons, h]; simp
theorem vis_show {D : List Ent} {k : Nat} {x : Ent} (hx : D[k]? = some x) (h : (x.k == 2 || x.k == 3) = false) : visE (D.take (k + 1)) = visE (D.take k) ++ [⟨x.k, x.t, x.n, false⟩] := by
  rw [take_step hx]; simp only [visE, List.filter_append, List.filter_cons, h]; simp
theorem vis_len (D : List Ent) (k : Nat) : (visE (D.take k)).length ≤ k := by
  have h1 : (visE (D.take k)).length ≤ (D.take k).length := by unfold visE; rw [List.length_map]; exact List.length_filter_le _ _
  have h2 : (D.take k).length ≤ k := by rw [List.length_take]; omega
  omega

def RowPost (f : Ent → List Value) (ty : TypeId) (w : World) (D : List Ent) (e : Ending) (w' : World) : Prop :=
  ∃ sa cap, e = .returned (.slice sa D.length cap) ∧ D.length ≤ cap ∧ RecsAt f 4 w' sa D.length D ∧ Wrote Nil w w'
theorem row_end {f : Ent → List Value} (hf : ∀ x, (f x).length = 4) {ty : TypeId} {w w' : World} {D : List Ent} {dv : Value} (h : Grow ty 4 w w.heap.size w' D.length (D.flatMap f) dv) : RowPost f ty w D (.returned dv) w' := by
  obtain ⟨sa, cap, rfl, h0, hr, _⟩ := own_recs hf h.own (by decide)
  refine ⟨sa, cap, rfl, ?_, hr, h.wrote⟩
  rcases h.own.2 with ⟨h1, h2⟩ | ⟨g, cap', cur, h1, _, _, h2, _⟩
  · rw [h2]; exact Nat.zero_le _
  · cases h1; exact h2

set_option maxHeartbeats 2000000 in
theorem ref_any {w : World} {sa : Option Addr} {n cap : Nat} {D : List Ent} (h : RecsAt eC 4 w sa n D) (hn : n ≤ 1000) :
    Calls Tryd.prog 9 #[.slice sa n cap] w (RowPost rC 27 w D) := by
  have hl := h.len
  obtain ⟨i0, hi, hz0, hz1, hz2⟩ := info_parts3 info_rn
  have H := Lib.hid (And.intro h hl)
  clear h hl
  go_enter Tryd.func9, Tryd.ntmps9
  go_wp2
  go_loopw [3, 9] (fun dv iv wr => ∃ (k : Nat) (dv0 : Value), dv0 = dv ∧ k ≤ n ∧ iv = .int .i64 k ∧ Grow 27 4 w w.heap.size wr k ((D.take k).flatMap rC) dv) (fun _ iv _ => n - (intOf iv).toNat)
  case atStart => exact ⟨0, _, rfl, Nat.zero_le _, rfl, grow_here _ _ _⟩
  case round =>
    obtain ⟨k, dv, rfl, hk, rfl, hG⟩ := hrel
    by_cases hlt : k < n
    · have hlt' : (k : Int) < n := by omega
      have k0 : (0 : Int) ≤ k := by omega
      obtain ⟨⟨x0, x1, x2, x3⟩, hx⟩ : ∃ x, D[k]? = some x := ⟨D[k]'(by rw [H.out.2]; exact hlt), List.getElem?_eq_getElem _⟩
      rcases (H.out.1.after hG.wrote).at eC_ne with h0 | ⟨b, o, rfl, hc⟩
      · omega
      obtain ⟨e0, e1, e2, e3⟩ := cells_e hc hx
      have hG2 := fun (o1 o2 o3 : Obj) => hG.after ((((Wrote.refl Nil wr).alloc o1).alloc o2).alloc o3)
      have HS := Lib.hid (And.intro hx hG2)
      clear hc hx hG hG2
      cases x3 with
      | true =>
        go_wp2_with (at_builtin; refine wpList_append_own _ rfl _ _ 24 rfl w.heap.size 27 i0 (.agg #[.int .i64 0, .int .i64 0, .int .i64 0, .int .i64 0]) 4 32 Tryd.underlying24 hi hz0 hz1 hz2 rfl (by decide) dv k ((D.take k).flatMap rC) rfl (HS.out.2 _ _ _).own ⟨wr.heap.size + 1 + 1, 0, none⟩ 1 1 (rC ⟨x0, x1, x2, true⟩) rfl rfl (news_at _ _ _ _ (by simp)) (rC_one _) (by unfold maxLen; omega) (by omega) (HS.out.2 _ _ _).size ?_; intro v' w6 hown hgrow hnil; have HG6 := Lib.hid ((HS.out.2 _ _ _).more hown hgrow); clear hown hgrow hnil)
        exact ⟨⟨k + 1, _, rfl, by omega, by simp, by rw [flat_step rC HS.out.1]; exact HG6.out⟩, by simp [intOf]; omega⟩
      | false =>
        go_wp2_with (at_builtin; refine wpList_append_own _ rfl _ _ 24 rfl w.heap.size 27 i0 (.agg #[.int .i64 0, .int .i64 0, .int .i64 0, .int .i64 0]) 4 32 Tryd.underlying24 hi hz0 hz1 hz2 rfl (by decide) dv k ((D.take k).flatMap rC) rfl (HS.out.2 _ _ _).own ⟨wr.heap.size + 1 + 1, 0, none⟩ 1 1 (rC ⟨x0, x1, x2, false⟩) rfl rfl (news_at _ _ _ _ (by simp)) (rC_one _) (by unfold maxLen; omega) (by omega) (HS.out.2 _ _ _).size ?_; intro v' w6 hown hgrow hnil; have HG6 := Lib.hid ((HS.out.2 _ _ _).more hown hgrow); clear hown hgrow hnil)
        exact ⟨⟨k + 1, _, rfl, by omega, by simp, by rw [flat_step rC HS.out.1]; exact HG6.out⟩, by simp [intOf]; omega⟩
    · obtain rfl : k = n := by omega
      rw [List.take_of_length_le (by rw [H.out.2]; exact Nat.le_refl _)] at hG
      have hP : RowPost rC 27 w D (.returned dv) wr := row_end rC_len (by rw [H.out.2]; exact hG)
      have HP := Lib.hid hP
      clear hG hP
      go_wp2
      go_ret
      exact HP.out

set_option maxHeartbeats 2000000 in
theorem tr_visible {w : World} {sa : Option Addr} {n cap : Nat} {D : List Ent} (h : RecsAt eC 4 w sa n D) (hn : n ≤ 1000) :
    Calls Tryd.prog 21 #[.slice sa n cap] w (RowPost eC 41 w (visE D)) := by
  have hl := h.len
  obtain ⟨i0, hi, hz0, hz1, hz2⟩ := info_parts3 info_en
  have H := Lib.hid (And.intro h hl)
  clear h hl
  go_enter Tryd.func21, Tryd.ntmps21
  go_wp2
  go_loopw [3, 8] (fun dv iv wr => ∃ (k : Nat) (dv0 : Value), dv0 = dv ∧ k ≤ n ∧ iv = .int .i64 k ∧ Grow 41 4 w w.heap.size wr (visE (D.take k)).length ((visE (D.take k)).flatMap eC) dv) (fun _ iv _ => n - (intOf iv).toNat)
  case atStart => exact ⟨0, _, rfl, Nat.zero_le _, rfl, grow_here _ _ _⟩
  case round =>
    obtain ⟨k, dv, rfl, hk, rfl, hG⟩ := hrel
    by_cases hlt : k < n
    · have hlt' : (k : Int) < n := by omega
      have k0 : (0 : Int) ≤ k := by omega
      obtain ⟨⟨x0, x1, x2, x3⟩, hx⟩ : ∃ x, D[k]? = some x := ⟨D[k]'(by rw [H.out.2]; exact hlt), List.getElem?_eq_getElem _⟩
      rcases (H.out.1.after hG.wrote).at eC_ne with h0 | ⟨b, o, rfl, hc⟩
      · omega
      obtain ⟨e0, e1, e2, e3⟩ := cells_e hc hx
      have hG2 := fun (o1 o2 : Obj) => hG.after (((Wrote.refl Nil wr).alloc o1).alloc o2)
      have hG1 := fun (o1 : Obj) => hG.after ((Wrote.refl Nil wr).alloc o1)
      have hm := vis_len D k
      obtain ⟨m, hmm⟩ : ∃ m, m = (visE (D.take k)).length := ⟨_, rfl⟩
      rw [← hmm] at hm
      have HS := Lib.hid (And.intro hx (And.intro hG2 (And.intro hG1 hmm)))
      clear hc hx hG hG2 hG1 hmm
      by_cases q2 : x0 = 2
      · subst q2
        go_wp2
        exact ⟨⟨k + 1, _, rfl, by omega, by simp, by rw [vis_hide HS.out.1 rfl]; exact HS.out.2.2.1 _⟩, by simp [intOf]; omega⟩
      have t2 : ((x0 : Int) == 2) = false := by simpa using q2
      by_cases q3 : x0 = 3
      · subst q3
        clear t2
        go_wp2
        exact ⟨⟨k + 1, _, rfl, by omega, by simp, by rw [vis_hide HS.out.1 rfl]; exact HS.out.2.2.1 _⟩, by simp [intOf]; omega⟩
      have t3 : ((x0 : Int) == 3) = false := by simpa using q3
      have ht : ((⟨x0, x1, x2, x3⟩ : Ent).k == 2 || (⟨x0, x1, x2, x3⟩ : Ent).k == 3) = false := by simp only [t2, t3]; rfl
      have HT := Lib.hid ht
      clear q2 q3 ht
      go_wp2_with (at_builtin; refine wpList_append_own _ rfl _ _ 22 rfl w.heap.size 41 i0 (.agg #[.int .i64 0, .int .i64 0, .int .i64 0, .bool false]) 4 32 Tryd.underlying22 hi hz0 hz1 hz2 rfl (by decide) dv (visE (D.take k)).length ((visE (D.take k)).flatMap eC) rfl (HS.out.2.1 _ _).own ⟨wr.heap.size + 1, 0, none⟩ 1 1 (eC ⟨x0, x1, x2, false⟩) rfl rfl (news_at _ _ _ _ (by simp)) (eC_one _) (by rw [← HS.out.2.2.2]; unfold maxLen; omega) (by rw [← HS.out.2.2.2]; omega) (HS.out.2.1 _ _).size ?_; intro v' w6 hown hgrow hnil; have HG6 := Lib.hid ((HS.out.2.1 _ _).more hown hgrow); clear hown hgrow hnil)
      exact ⟨⟨k + 1, _, rfl, by omega, by simp, by rw [vis_show HS.out.1 HT.out, List.length_append, List.flatMap_append]; simpa using HG6.out⟩, by simp [intOf]; omega⟩
    · obtain rfl : k = n := by omega
      rw [List.take_of_length_le (by rw [H.out.2]; exact Nat.le_refl _)] at hG
      have hP : RowPost eC 41 w (visE D) (.returned dv) wr := row_end eC_len hG
      have HP := Lib.hid hP
      clear hG hP
      go_wp2
      go_ret
      exact HP.out

set_option maxHeartbeats 2000000 in
theorem same_any {w : World} {s0 s1 : Option Addr} {n c0 c1 : Nat} {D : List Ent} (h0 : RecsAt eC 4 w s0 n D) (h1 : RecsAt rC 4 w s1 n D) (hn : n ≤ 1000) :
    Calls Tryd.prog 14 #[.slice s0 n c0, .slice s1 n c1] w fun e w' => e = .returned (.bool true) ∧ Wrote Nil w w' := by
  have hl := h0.len
  have c2 := ref_any (cap := c0) h0 hn
  unfold RowPost at c2
  rw [hl] at c2
  have H := Lib.hid (And.intro h1 hl)
  clear h0 h1 hl
  go_enter Tryd.func14, Tryd.ntmps14
  go_wp2_with (go_at_call 9; (with_reducible refine c2.mono ?_); rintro e w2 ⟨sr, cr, rfl, hcr, hr, hW⟩; have HR := Lib.hid (And.intro hr hW); clear hr hW)
  clear c2
  go_loopw [15] (fun iv wr => ∃ k : Nat, k ≤ n ∧ iv = .int .i64 k ∧ Wrote Nil w2 wr) (fun iv _ => n - (intOf iv).toNat)
  case atStart => exact ⟨0, Nat.zero_le _, rfl, Wrote.refl _ _⟩
  case round =>
    obtain ⟨k, hk, rfl, hW⟩ := hrel
    by_cases hlt : k < n
    · have hlt' : (k : Int) < n := by omega
      have k0 : (0 : Int) ≤ k := by omega
      obtain ⟨⟨x0, x1, x2, x3⟩, hx⟩ : ∃ x, D[k]? = some x := ⟨D[k]'(by rw [H.out.2]; exact hlt), List.getElem?_eq_getElem _⟩
      rcases (HR.out.1.after hW).at rC_ne with h0 | ⟨b, o, rfl, hc⟩
      · omega
      obtain ⟨e0, e1, e2, e3⟩ := cells_r hc hx
      rcases (H.out.1.after (HR.out.2.nil hW)).at rC_ne with h0 | ⟨b1, o1, rfl, hc1⟩
      · omega
      obtain ⟨f0, f1, f2, f3⟩ := cells_r hc1 hx
      have hWX : Wrote Nil wr (wr.alloc (.cells #[.int .i64 x0, .int .i64 x1, .int .i64 x2, .int .i64 (ldI x3)] 27)) := (Wrote.refl _ _).alloc _
      have HW := Lib.hid (And.intro hW hWX)
      clear hc hc1 hx hW hWX
      generalize ldI x3 = x4 at e3 f3 HW
      have hd : decide (n ≤ k) = false := by simp; omega
      go_wp2
      have g0 : (wr.alloc (.cells #[.int .i64 x0, .int .i64 x1, .int .i64 x2, .int .i64 x4] 27)).cell? ⟨wr.heap.size, 0, none⟩ = some (.int .i64 x0) := by simp
      have g1 : (wr.alloc (.cells #[.int .i64 x0, .int .i64 x1, .int .i64 x2, .int .i64 x4] 27)).cell? ⟨wr.heap.size, 1, none⟩ = some (.int .i64 x1) := by simp
      have g2 : (wr.alloc (.cells #[.int .i64 x0, .int .i64 x1, .int .i64 x2, .int .i64 x4] 27)).cell? ⟨wr.heap.size, 2, none⟩ = some (.int .i64 x2) := by simp
      have g3 : (wr.alloc (.cells #[.int .i64 x0, .int .i64 x1, .int .i64 x2, .int .i64 x4] 27)).cell? ⟨wr.heap.size, 3, none⟩ = some (.int .i64 x4) := by simp
      have f0 := HW.out.2.old f0
      have f1 := HW.out.2.old f1
      have f2 := HW.out.2.old f2
      have f3 := HW.out.2.old f3
      have hW2 := HW.out.1.nil HW.out.2
      generalize wr.heap.size = q at g0 g1 g2 g3 ⊢
      generalize wr.alloc (.cells #[.int .i64 x0, .int .i64 x1, .int .i64 x2, .int .i64 x4] 27) = X at g0 g1 g2 g3 f0 f1 f2 f3 hW2 ⊢
      have HW2 := Lib.hid hW2
      clear hW2 HW e0 e1 e2 e3
      go_big_quiet (fail)
      go_wp2
      go_roundw
      case rel => exact ⟨k + 1, by omega, by go_num, HW2.out.nil ((Wrote.refl Nil X).drewN _)⟩
      case measure => simp [intOf]; omega
    · have HW := Lib.hid (HR.out.2.nil hW)
      clear hW
      go_wp2
      go_ret
      exact ⟨rfl, HW.out⟩
end Go.Proofs.YtihlokhejopphaaDoor
