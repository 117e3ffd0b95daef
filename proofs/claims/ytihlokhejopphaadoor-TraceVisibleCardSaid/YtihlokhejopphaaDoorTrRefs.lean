/- The contracts of the reference's Holder and Waits. -/
import Derived.Test.YtihlokhejopphaaDoorTrHold
import Derived.Test.YtihlokhejopphaaDoorTrWaitM
import Derived.Test.YtihlokhejopphaaDoorTrSame
namespace Go.Proofs.YtihlokhejopphaaDoor
open Go.RowKit Go.BigFrame
set_option linter.unusedVariables false

theorem ret_i64' {a b : Int} (h : a = b) : Ending.returned (.int .i64 a) = .returned (.int .i64 b) := by rw [h]

set_option maxHeartbeats 2000000 in
theorem rf_waits {w : World} {sa : Option Addr} {n cap : Nat} {D : List Ent} (h : RecsAt rC 4 w sa n D) (hn : n ≤ 1000) (t : Int) :
    Calls Tryd.prog 20 #[.slice sa n cap, .int .i64 t] w fun e w' => e = .returned (.bool (waitS D t)) ∧ Wrote Nil w w' := by
  have hl := h.len
  have H := Lib.hid (And.intro h hl)
  clear h hl
  go_enter Tryd.func20, Tryd.ntmps20
  go_wp2
  go_loopw [5, 10] (fun bv iv wr => ∃ (k : Nat) (b : Bool), k ≤ n ∧ iv = .int .i64 k ∧ bv = .bool b ∧ Hid (b = waitS (D.take k) t) ∧ Wrote Nil w wr) (fun _ iv _ => n - (intOf iv).toNat)
  case atStart => exact ⟨0, false, Nat.zero_le _, rfl, rfl, Lib.hid rfl, Wrote.refl _ _⟩
  case round =>
    obtain ⟨k, b, hk, rfl, rfl, hb, hW⟩ := hrel
    by_cases hlt : k < n
    · have hlt' : (k : Int) < n := by omega
      have k0 : (0 : Int) ≤ k := by omega
      obtain ⟨⟨x0, x1, x2, x3⟩, hx⟩ : ∃ x, D[k]? = some x := ⟨D[k]'(by rw [H.out.2]; exact hlt), List.getElem?_eq_getElem _⟩
      rcases (H.out.1.after hW).at rC_ne with h0 | ⟨bb, o, rfl, hc⟩
      · omega
      obtain ⟨e0, e1, e2, e3⟩ := cells_r hc hx
      have htk := take_step hx
      have hst : waitS (D.take (k + 1)) t = waitU t b ⟨x0, x1, x2, x3⟩ := by rw [htk, waitS_snoc, hb.out]
      have HS := Lib.hid (And.intro hst (hW.alloc (.cells #[.int .i64 x0, .int .i64 x1, .int .i64 x2, .int .i64 (ldI x3)] 27)))
      clear hc hx htk hst hb hW
      generalize ldI x3 = x4 at e3 HS
      by_cases hxt : x1 = t
      · subst hxt
        by_cases q1 : x0 = 1
        · subst q1
          go_wp2
          exact ⟨⟨k + 1, true, by omega, by simp, rfl, Lib.hid (by rw [HS.out.1]; simp [waitU]), HS.out.2⟩, by simp [intOf]; omega⟩
        have t1 : ((x0 : Int) == 1) = false := by simpa using q1
        by_cases q4 : x0 = 4
        · subst q4
          clear t1
          go_wp2
          exact ⟨⟨k + 1, false, by omega, by simp, rfl, Lib.hid (by rw [HS.out.1]; simp [waitU]), HS.out.2⟩, by simp [intOf]; omega⟩
        have t4 : ((x0 : Int) == 4) = false := by simpa using q4
        by_cases q5 : x0 = 5
        · subst q5
          clear t1 t4
          go_wp2
          exact ⟨⟨k + 1, false, by omega, by simp, rfl, Lib.hid (by rw [HS.out.1]; simp [waitU]), HS.out.2⟩, by simp [intOf]; omega⟩
        have t5 : ((x0 : Int) == 5) = false := by simpa using q5
        by_cases q8 : x0 = 8
        · subst q8
          clear t1 t4 t5
          go_wp2
          exact ⟨⟨k + 1, false, by omega, by simp, rfl, Lib.hid (by rw [HS.out.1]; simp [waitU]), HS.out.2⟩, by simp [intOf]; omega⟩
        have t8 : ((x0 : Int) == 8) = false := by simpa using q8
        have HT := Lib.hid (And.intro q1 (And.intro q4 (And.intro q5 q8)))
        clear q1 q4 q5 q8
        go_wp2
        exact ⟨⟨k + 1, b, by omega, by simp, rfl, Lib.hid (by rw [HS.out.1]; simp [waitU, HT.out.1, HT.out.2.1, HT.out.2.2.1, HT.out.2.2.2]), HS.out.2⟩, by simp [intOf]; omega⟩
      · have hne : ((x1 : Int) != t) = true := by simpa using hxt
        have HT := Lib.hid hxt
        clear hxt
        go_wp2
        exact ⟨⟨k + 1, b, by omega, by simp, rfl, Lib.hid (by rw [HS.out.1]; simp [waitU, HT.out]), HS.out.2⟩, by simp [intOf]; omega⟩
    · obtain rfl : k = n := by omega
      have hE := hb.out
      rw [List.take_of_length_le (by rw [H.out.2]; exact Nat.le_refl _)] at hE
      have HE := Lib.hid hE
      clear hE hb
      go_wp2
      go_ret
      exact ⟨ret_truth HE.out, hW⟩

theorem unl_step (l : List Ent) {k : Nat} {x : Ent} (hx : l[k]? = some x) (t : Int) : unl (l.take (k + 1)) t = (unl (l.take k) t || (x.k == 6 && x.t == t)) := by
  rw [take_step hx]; simp [unl]
theorem drop_step {D : List Ent} {k : Nat} {x : Ent} (hx : D[k]? = some x) : D.drop k = x :: D.drop (k + 1) := by
  have hk := (List.getElem?_eq_some_iff.1 hx).1
  have he := (List.getElem?_eq_some_iff.1 hx).2
  rw [List.drop_eq_getElem_cons hk, he]

set_option maxHeartbeats 4000000 in
theorem rf_holder {w : World} {sa : Option Addr} {n cap : Nat} {D : List Ent} (h : RecsAt rC 4 w sa n D) (hn : n ≤ 1000) :
    Calls Tryd.prog 17 #[.slice sa n cap] w fun e w' => e = .returned (.int .i64 ((holdS D).getD (-1))) ∧ Wrote Nil w w' := by
  have hl := h.len
  have H := Lib.hid (And.intro h hl)
  clear h hl
  go_enter Tryd.func17, Tryd.ntmps17
  go_wp2
  go_loopw [3] (fun iv wr => ∃ z : Int, iv = .int .i64 z ∧ -1 ≤ z ∧ z ≤ n - 1 ∧ Hid (holdS (D.drop (z + 1).toNat) = none) ∧ Wrote Nil w wr) (fun iv _ => (intOf iv + 1).toNat)
  case atStart => exact ⟨(n : Int) - 1, by simp, by omega, by omega, Lib.hid (by rw [show ((n : Int) - 1 + 1).toNat = D.length by rw [H.out.2]; omega, List.drop_length]; rfl), Wrote.refl _ _⟩
  case round =>
    obtain ⟨z, rfl, z0, zn, hh, hW⟩ := hrel
    by_cases hz : 0 ≤ z
    · obtain ⟨j, rfl⟩ : ∃ j : Nat, z = j := ⟨z.toNat, by omega⟩
      have hlt : j < n := by omega
      obtain ⟨⟨x0, x1, x2, x3⟩, hx⟩ : ∃ x, D[j]? = some x := ⟨D[j]'(by rw [H.out.2]; exact hlt), List.getElem?_eq_getElem _⟩
      have hR := H.out.1.after hW
      rcases hR.at rC_ne with h0 | ⟨bb, o, rfl, hc⟩
      · omega
      obtain ⟨e0, e1, e2, e3⟩ := cells_r hc hx
      have hds := drop_step hx
      have hh' : holdS (D.drop (j + 1)) = none := by have := hh.out; rwa [show ((j : Int) + 1).toNat = j + 1 by omega] at this
      have HS := Lib.hid (And.intro hds (And.intro hh' (And.intro hW hx)))
      clear hc hx hds hh hh' hW hR e2 e3
      by_cases q4 : x0 = 4
      · subst q4
        go_wp2
        go_loopw [4, 5] (fun bv kv wx => ∃ (q : Nat) (b : Bool), j + 1 ≤ q ∧ q ≤ n ∧ kv = .int .i64 (q : Nat) ∧ bv = .bool b ∧ Hid (b = !unl ((D.drop (j + 1)).take (q - (j + 1))) x1) ∧ Wrote Nil w wx) (fun _ kv _ => n - (intOf kv).toNat)
        case atStart => exact ⟨j + 1, true, Nat.le_refl _, by omega, by simp, rfl, Lib.hid (by simp [unl]), HS.out.2.2.1⟩
        case round =>
          obtain ⟨q, b, hjq, hqn, rfl, rfl, hb, hWx⟩ := hrel
          rcases (H.out.1.after hWx).at rC_ne with h0 | ⟨b2, o2, hbo, hc2⟩
          · omega
          cases hbo
          have f1 := (cells_r hc2 HS.out.2.2.2).2.1
          by_cases hil : q < n
          · have hil' : (q : Int) < n := by omega
            have q0 : (0 : Int) ≤ q := by omega
            have j0 : (0 : Int) ≤ j := by omega
            have hjn : (j : Int) < n := by omega
            obtain ⟨⟨y0, y1, y2, y3⟩, hy⟩ : ∃ x, D[q]? = some x := ⟨D[q]'(by rw [H.out.2]; exact hil), List.getElem?_eq_getElem _⟩
            obtain ⟨g0, g1, _, _⟩ := cells_r hc2 hy
            have hy2 : (D.drop (j + 1))[q - (j + 1)]? = some ⟨y0, y1, y2, y3⟩ := by rw [List.getElem?_drop, show j + 1 + (q - (j + 1)) = q by omega]; exact hy
            have hst := unl_step (D.drop (j + 1)) hy2 x1
            rw [show q - (j + 1) + 1 = q + 1 - (j + 1) by omega] at hst
            have HB := Lib.hid (And.intro hst (And.intro hb hWx))
            clear hy hy2 hst hb hWx hc2
            have fin : ∀ (c : Bool) (N : Nat), c = !(unl ((D.drop (j + 1)).take (q - (j + 1))) x1 || (y0 == 6 && y1 == x1)) → ∃ (q' : Nat) (b' : Bool), j + 1 ≤ q' ∧ q' ≤ n ∧ Value.int .i64 ((q + 1 : Nat) : Int) = .int .i64 (q' : Nat) ∧ Value.bool c = .bool b' ∧ Hid (b' = !unl ((D.drop (j + 1)).take (q' - (j + 1))) x1) ∧ Wrote Nil w (wr.drewN N) := fun c N hc => ⟨q + 1, c, by omega, by omega, rfl, rfl, Lib.hid (by rw [HB.out.1]; exact hc), HB.out.2.2.drewN N⟩
            have HF := Lib.hid fin
            clear fin
            cases b with
            | false =>
              have hu : unl ((D.drop (j + 1)).take (q - (j + 1))) x1 = true := by have := HB.out.2.1.out; simpa using this.symm
              have HU := Lib.hid hu
              clear hu
              go_wp2
              go_big_quiet (fail)
              go_wp2
              go_roundw
              case rel => exact HF.out false _ (by rw [HU.out]; rfl)
              case measure => simp [intOf]; omega
            | true =>
              have hu : unl ((D.drop (j + 1)).take (q - (j + 1))) x1 = false := by have := HB.out.2.1.out; simpa using this.symm
              by_cases p6 : y0 = 6
              · subst p6
                by_cases pt : y1 = x1
                · subst pt
                  have HU := Lib.hid hu
                  clear hu
                  go_wp2
                  go_big_quiet (fail)
                  go_wp2
                  go_roundw
                  case rel => exact HF.out false _ (by rw [HU.out]; simp)
                  case measure => simp [intOf]; omega
                · have tt : ((y1 : Int) == x1) = false := by simpa using pt
                  have HU := Lib.hid (And.intro hu pt)
                  clear hu pt
                  go_wp2
                  go_big_quiet (fail)
                  go_wp2
                  go_roundw
                  case rel => exact HF.out true _ (by rw [HU.out.1]; simp [HU.out.2])
                  case measure => simp [intOf]; omega
              · have t6 : ((y0 : Int) == 6) = false := by simpa using p6
                have HU := Lib.hid (And.intro hu p6)
                clear hu p6
                go_wp2
                go_big_quiet (fail)
                go_wp2
                go_roundw
                case rel => exact HF.out true _ (by rw [HU.out.1]; simp [HU.out.2])
                case measure => simp [intOf]; omega
          · obtain rfl : q = n := by omega
            have hE : b = !unl (D.drop (j + 1)) x1 := by rw [hb.out, List.take_of_length_le (by rw [List.length_drop, H.out.2]; exact Nat.le_refl _)]
            have j0 : (0 : Int) ≤ j := by omega
            have hjn : (j : Int) < q := by omega
            have HE := Lib.hid (And.intro hE hWx)
            clear hE hb hWx hc2
            cases b with
            | true =>
              have hu : unl (D.drop (j + 1)) x1 = false := by have := HE.out.1; simpa using this.symm
              have hD : holdS D = some x1 := by
                have h1 := holdS_here (e := ⟨4, x1, x2, x3⟩) HS.out.2.1 rfl hu
                rw [← HS.out.1] at h1
                have h2 := holdS_app (a := D.take j) h1
                rwa [List.take_append_drop] at h2
              have HD := Lib.hid hD
              clear hu hD
              go_wp2
              go_ret
              exact ⟨ret_i64' (by rw [HD.out]; rfl), HE.out.2⟩
            | false =>
              have hu : unl (D.drop (j + 1)) x1 = true := by have := HE.out.1; simpa using this.symm
              have HU := Lib.hid hu
              clear hu
              go_wp2
              go_roundw
              case rel => exact ⟨(j : Int) - 1, by go_num, by omega, by omega, Lib.hid (by rw [show ((j : Int) - 1 + 1).toNat = j by omega, HS.out.1]; exact holdS_not HS.out.2.1 (.inr HU.out)), HE.out.2⟩
              case measure => simp [intOf]
      · have t4 : ((x0 : Int) != 4) = true := by simpa using q4
        have HQ := Lib.hid q4
        clear q4
        go_wp2
        exact ⟨⟨(j : Int) - 1, by go_num, by omega, by omega, Lib.hid (by rw [show ((j : Int) - 1 + 1).toNat = j by omega, HS.out.1]; exact holdS_not HS.out.2.1 (.inl HQ.out)), HS.out.2.2.1⟩, by simp [intOf]⟩
    · obtain rfl : z = -1 := by omega
      have hE : holdS D = none := hh.out
      have HE := Lib.hid hE
      clear hE hh
      go_wp2
      go_ret
      exact ⟨ret_i64' (by rw [HE.out]; rfl), hW⟩
end Go.Proofs.YtihlokhejopphaaDoor
