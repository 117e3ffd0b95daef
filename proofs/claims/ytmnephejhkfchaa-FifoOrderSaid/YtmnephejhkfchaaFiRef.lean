/- What stands in entries, as the document's answers look back at them: Ref, Last, Queue. -/
import Derived.Test.YtmnephejhkfchaaFiGo
namespace Go.Proofs.Ytmnephejhkfchaa.Fi
open Go.RowKit Go.BigFrame
set_option linter.unusedVariables false
set_option maxRecDepth 100000
set_option maxHeartbeats 2000000

def ldI (b : Bool) : Int := if b then 1 else 0
def rC (e : Ent) : List Value := [.int .i64 e.k, .int .i64 e.t, .int .i64 e.now, .int .i64 (ldI e.lead)]
theorem rC_ne (e : Ent) : rC e ≠ [] := by simp [rC]
theorem rC_len (e : Ent) : (rC e).length = 4 := rfl
theorem rC_one (e : Ent) : ∀ u ∈ rC e, u.oneCell' = true := by intro u hu; simp only [rC, List.mem_cons, List.mem_nil_iff, or_false] at hu; rcases hu with rfl | rfl | rfl | rfl <;> rfl
theorem info_rn : (Try.prog.info? 29).map (fun i => (i.zero, i.size, i.bytes)) = some (some (.agg #[.int .i64 0, .int .i64 0, .int .i64 0, .int .i64 0]), 4, 32) := by kernel_rfl
theorem flat_ent {D : List Ent} {k : Nat} {x : Ent} (f : Ent → List Value) (hx : D[k]? = some x) : (D.take (k + 1)).flatMap f = (D.take k).flatMap f ++ f x := by rw [take_ent hx]; simp
def RfPost (w : World) (D : List Ent) (e : Ending) (w' : World) : Prop :=
  ∃ sa cap, e = .returned (.slice sa D.length cap) ∧ D.length ≤ cap ∧ RecsAt rC 4 w' sa D.length D ∧ Wrote Nil w w'
theorem rf_end {w w' : World} {D : List Ent} {dv : Value} (h : Grow 29 4 w w.heap.size w' D.length (D.flatMap rC) dv) : RfPost w D (.returned dv) w' := by
  obtain ⟨sa, cap, rfl, h0, hr, _⟩ := own_recs rC_len h.own (by decide)
  refine ⟨sa, cap, rfl, ?_, hr, h.wrote⟩
  rcases h.own.2 with ⟨h1, h2⟩ | ⟨g, cap', cur, h1, _, _, h2, _⟩
  · rw [h2]; exact Nat.zero_le _
  · cases h1; exact h2
theorem rf_ref {w : World} {sa : Option Addr} {n cap : Nat} {D : List Ent} (h : RecsAt Ent.cells 4 w sa n D) (hn : n ≤ 1000) :
    Calls Try.prog 7 #[.slice sa n cap] w (RfPost w D) := by
  have hl := h.len
  obtain ⟨i0, hi, hz0, hz1, hz2⟩ := info_parts3 info_rn
  have H := Lib.hid (And.intro h hl)
  clear h hl
  go_enter Try.func7, Try.ntmps7
  go_wp2
  go_loopw [3, 9] (fun dv iv wr => ∃ (k : Nat) (dv0 : Value), dv0 = dv ∧ k ≤ n ∧ iv = .int .i64 k ∧ Grow 29 4 w w.heap.size wr k ((D.take k).flatMap rC) dv) (fun _ iv _ => n - (intOf iv).toNat)
  case atStart => exact ⟨0, _, rfl, Nat.zero_le _, rfl, grow_here _ _ _⟩
  case round =>
    obtain ⟨k, dv, rfl, hk, rfl, hG⟩ := hrel
    by_cases hlt : k < n
    · have hlt' : (k : Int) < n := by omega
      have k0 : (0 : Int) ≤ k := by omega
      obtain ⟨⟨x0, x1, x2, x3⟩, hx⟩ : ∃ x, D[k]? = some x := ⟨D[k]'(by rw [H.out.2]; exact hlt), List.getElem?_eq_getElem _⟩
      rcases (H.out.1.after hG.wrote).at Ent.ne with h0 | ⟨b, o, rfl, hc⟩
      · omega
      have e0 : wr.cell? ⟨b, o + k * 4, none⟩ = some (.int .i64 x0) := hc k _ hx 0 _ rfl
      have e1 : wr.cell? ⟨b, o + k * 4 + 1, none⟩ = some (.int .i64 x1) := hc k _ hx 1 _ rfl
      have e2 : wr.cell? ⟨b, o + k * 4 + 2, none⟩ = some (.int .i64 x2) := hc k _ hx 2 _ rfl
      have e3 : wr.cell? ⟨b, o + k * 4 + 3, none⟩ = some (.bool x3) := hc k _ hx 3 _ rfl
      have hG2 := fun (o1 o2 o3 : Obj) => hG.after ((((Wrote.refl Nil wr).alloc o1).alloc o2).alloc o3)
      have HS := Lib.hid (And.intro hx hG2)
      clear hc hx hG hG2
      cases x3 with
      | true =>
        go_wp2_with (at_builtin; refine wpList_append_own _ rfl _ _ 26 rfl w.heap.size 29 i0 (.agg #[.int .i64 0, .int .i64 0, .int .i64 0, .int .i64 0]) 4 32 Try.underlying26 hi hz0 hz1 hz2 rfl (by decide) dv k ((D.take k).flatMap rC) rfl (HS.out.2 _ _ _).own ⟨wr.heap.size + 1 + 1, 0, none⟩ 1 1 (rC ⟨x0, x1, x2, true⟩) rfl rfl (news_at _ _ _ _ (by simp)) (rC_one _) (by unfold maxLen; omega) (by omega) (HS.out.2 _ _ _).size ?_; intro v' w6 hown hgrow hnil; have HG6 := Lib.hid ((HS.out.2 _ _ _).more hown hgrow); clear hown hgrow hnil)
        exact ⟨⟨k + 1, _, rfl, by omega, by simp, by rw [flat_ent rC HS.out.1]; exact HG6.out⟩, by simp [intOf]; omega⟩
      | false =>
        go_wp2_with (at_builtin; refine wpList_append_own _ rfl _ _ 26 rfl w.heap.size 29 i0 (.agg #[.int .i64 0, .int .i64 0, .int .i64 0, .int .i64 0]) 4 32 Try.underlying26 hi hz0 hz1 hz2 rfl (by decide) dv k ((D.take k).flatMap rC) rfl (HS.out.2 _ _ _).own ⟨wr.heap.size + 1 + 1, 0, none⟩ 1 1 (rC ⟨x0, x1, x2, false⟩) rfl rfl (news_at _ _ _ _ (by simp)) (rC_one _) (by unfold maxLen; omega) (by omega) (HS.out.2 _ _ _).size ?_; intro v' w6 hown hgrow hnil; have HG6 := Lib.hid ((HS.out.2 _ _ _).more hown hgrow); clear hown hgrow hnil)
        exact ⟨⟨k + 1, _, rfl, by omega, by simp, by rw [flat_ent rC HS.out.1]; exact HG6.out⟩, by simp [intOf]; omega⟩
    · obtain rfl : k = n := by omega
      rw [List.take_of_length_le (by rw [H.out.2]; exact Nat.le_refl _)] at hG
      have hP : RfPost w D (.returned dv) wr := rf_end (by rw [H.out.2]; exact hG)
      have HP := Lib.hid hP
      clear hG hP
      go_wp2
      go_ret
      exact HP.out
/-! ### Last -/
theorem rf_last {w : World} {sa : Option Addr} {n cap : Nat} {D : List Ent} (h : RecsAt rC 4 w sa n D) (hn : n ≤ 1000) (t : Int) :
    Calls Try.prog 8 #[.slice sa n cap, .int .i64 t] w fun e w' => e = .returned (.int .i64 (lastK D t)) ∧ Wrote Nil w w' := by
  have hl := h.len
  have H := Lib.hid (And.intro h hl)
  clear h hl
  go_enter Try.func8, Try.ntmps8
  go_wp2
  go_loopw [5, 10] (fun kv iv wr => ∃ (k : Nat) (q : Int), k ≤ n ∧ iv = .int .i64 k ∧ kv = .int .i64 q ∧ Hid (q = lastK (D.take k) t) ∧ Wrote Nil w wr) (fun _ iv _ => n - (intOf iv).toNat)
  case atStart => exact ⟨0, 0, Nat.zero_le _, rfl, rfl, Lib.hid rfl, Wrote.refl _ _⟩
  case round =>
    obtain ⟨k, q, hk, rfl, rfl, hq, hW⟩ := hrel
    by_cases hlt : k < n
    · have hlt' : (k : Int) < n := by omega
      have k0 : (0 : Int) ≤ k := by omega
      obtain ⟨⟨x0, x1, x2, x3⟩, hx⟩ : ∃ x, D[k]? = some x := ⟨D[k]'(by rw [H.out.2]; exact hlt), List.getElem?_eq_getElem _⟩
      rcases (H.out.1.after hW).at rC_ne with h0 | ⟨b, o, rfl, hc⟩
      · omega
      have e0 : wr.cell? ⟨b, o + k * 4, none⟩ = some (.int .i64 x0) := hc k _ hx 0 _ rfl
      have e1 : wr.cell? ⟨b, o + k * 4 + 1, none⟩ = some (.int .i64 x1) := hc k _ hx 1 _ rfl
      have e2 : wr.cell? ⟨b, o + k * 4 + 2, none⟩ = some (.int .i64 x2) := hc k _ hx 2 _ rfl
      have e3 : wr.cell? ⟨b, o + k * 4 + 3, none⟩ = some (.int .i64 (ldI x3)) := hc k _ hx 3 _ rfl
      have hst := lastK_snoc (D.take k) ⟨x0, x1, x2, x3⟩ t
      rw [← take_ent hx, ← hq.out] at hst
      dsimp only at hst
      have HS := Lib.hid (And.intro hst (hW.alloc (.cells #[.int .i64 x0, .int .i64 x1, .int .i64 x2, .int .i64 (ldI x3)] 29)))
      clear hc hx hst hq hW
      generalize ldI x3 = x4 at *
      by_cases hxt : x1 = t
      · have ht : ((x1 : Int) == t) = true := by rw [beq_iff_eq]; exact hxt
        have HT := Lib.hid hxt
        clear hxt
        go_wp2
        exact ⟨⟨k + 1, x0, by omega, by simp, rfl, Lib.hid (by rw [HS.out.1, if_pos HT.out]), HS.out.2⟩, by simp [intOf]; omega⟩
      · have ht : ((x1 : Int) == t) = false := beq_false_of_ne hxt
        have HT := Lib.hid hxt
        clear hxt
        go_wp2
        exact ⟨⟨k + 1, q, by omega, by simp, rfl, Lib.hid (by rw [HS.out.1, if_neg HT.out]), HS.out.2⟩, by simp [intOf]; omega⟩
    · obtain rfl : k = n := by omega
      have hE := hq.out
      rw [List.take_of_length_le (by rw [H.out.2]; exact Nat.le_refl _)] at hE
      subst hE
      go_wp2
      go_ret
      exact ⟨rfl, hW⟩
/-! ### Queue -/
def iv (x : Int) : Value := .int .i64 x
def QuPost (w : World) (l : List Int) (e : Ending) (w' : World) : Prop := ∃ v, e = .returned v ∧ Grow 3 1 w w.heap.size w' l.length (l.map iv) v
theorem noT_drop {D : List Ent} {k q : Nat} {y : Ent} (t : Int) (h : D[q]? = some y) (hk : k ≤ q) : noT ((D.drop k).take (q + 1 - k)) t = (noT ((D.drop k).take (q - k)) t && !decide (y.t = t)) := by
  have h2 : (D.drop k)[q - k]? = some y := by rw [List.getElem?_drop, show k + (q - k) = q by omega]; exact h
  rw [show q + 1 - k = q - k + 1 by omega, take_ent h2, noT_snoc]
theorem queS_drop {D : List Ent} {k : Nat} {x : Ent} (h : D[k]? = some x) : queS (D.drop k) = (if x.k = 2 ∧ noT (D.drop (k + 1)) x.t = true then [x.t] else []) ++ queS (D.drop (k + 1)) := by
  have hk := (List.getElem?_eq_some_iff.1 h).1
  have he := (List.getElem?_eq_some_iff.1 h).2
  rw [List.drop_eq_getElem_cons hk, he, queS]
theorem rf_queue {w : World} {sa : Option Addr} {n cap : Nat} {D : List Ent} (h : RecsAt rC 4 w sa n D) (hn : n ≤ 1000) :
    Calls Try.prog 9 #[.slice sa n cap] w (QuPost w (queS D)) := by
  have hl := h.len
  obtain ⟨i0, hi, hz0, hz1, hz2⟩ := info_parts3 info
  have H := Lib.hid (And.intro h hl)
  clear h hl
  go_enter Try.func9, Try.ntmps9
  go_wp2
  go_loopw [3, 10] (fun dv i wr => ∃ (k : Nat) (xs : List Int) (dv0 : Value), dv0 = dv ∧ k ≤ n ∧ xs.length ≤ k ∧ i = .int .i64 k ∧ Hid (xs ++ queS (D.drop k) = queS D) ∧ Grow 3 1 w w.heap.size wr xs.length (xs.map iv) dv) (fun _ i _ => n - (intOf i).toNat)
  case atStart => exact ⟨0, [], _, rfl, Nat.zero_le _, Nat.le_refl _, rfl, Lib.hid rfl, grow_here _ _ _⟩
  case round =>
    obtain ⟨k, xs, dv, rfl, hk, hxk, rfl, hxs, hG⟩ := hrel
    by_cases hlt : k < n
    · have hlt' : (k : Int) < n := by omega
      have k0 : (0 : Int) ≤ k := by omega
      obtain ⟨⟨x0, x1, x2, x3⟩, hx⟩ : ∃ x, D[k]? = some x := ⟨D[k]'(by rw [H.out.2]; exact hlt), List.getElem?_eq_getElem _⟩
      have hR := H.out.1.after hG.wrote
      rcases hR.at rC_ne with h0 | ⟨b, o, rfl, hc⟩
      · omega
      have e0 : wr.cell? ⟨b, o + k * 4, none⟩ = some (.int .i64 x0) := hc k _ hx 0 _ rfl
      have e1 : wr.cell? ⟨b, o + k * 4 + 1, none⟩ = some (.int .i64 x1) := hc k _ hx 1 _ rfl
      have e2 : wr.cell? ⟨b, o + k * 4 + 2, none⟩ = some (.int .i64 x2) := hc k _ hx 2 _ rfl
      have e3 : wr.cell? ⟨b, o + k * 4 + 3, none⟩ = some (.int .i64 (ldI x3)) := hc k _ hx 3 _ rfl
      obtain ⟨X, hX⟩ : ∃ X, X = wr.alloc (.cells #[.int .i64 x0, .int .i64 x1, .int .i64 x2, .int .i64 (ldI x3)] 29) := ⟨_, rfl⟩
      obtain ⟨B, hBe⟩ : ∃ B, B = wr.heap.size := ⟨_, rfl⟩
      have hWX : Wrote Nil wr X := by rw [hX]; exact (Wrote.refl _ _).alloc _
      have hB : X.heap[B]? = some (.cells #[.int .i64 x0, .int .i64 x1, .int .i64 x2, .int .i64 (ldI x3)] 29 (0, 0)) := by rw [hX, hBe]; exact Go.Deep.blk_alloc_new _ _
      have hst := queS_drop hx
      dsimp only at hst
      have HX := Lib.hid (And.intro hX (And.intro hBe (And.intro (hG.after hWX) (And.intro hst (And.intro hxs (And.intro hB (hR.after hWX)))))))
      clear hX hBe hWX hB hc hx hst hxs hG hR
      generalize ldI x3 = x4 at *
      go_upto_region 5 with fail
      rw [← HX.out.1, ← HX.out.2.1]
      have b0 : X.cell? ⟨B, 0, none⟩ = some (.int .i64 x0) := (blk_cell HX.out.2.2.2.2.2.1 0).trans rfl
      clear e0 e1 e2 e3
      by_cases q2 : x0 = 2
      · have t2 : ((x0 : Int) != 2) = false := by simp [q2]
        have H2 := Lib.hid q2
        clear q2
        go_wp2
        go_loopw [6, 7] (fun bv kv wx => ∃ (q : Nat) (c : Bool), k + 1 ≤ q ∧ q ≤ n ∧ kv = .int .i64 (q : Nat) ∧ bv = .bool c ∧ Hid (c = noT ((D.drop (k + 1)).take (q - (k + 1))) x1) ∧ Wrote Nil X wx) (fun _ kv _ => n - (intOf kv).toNat)
        case atStart => exact ⟨k + 1, true, Nat.le_refl _, by omega, by simp, rfl, Lib.hid (by simp [noT]), Wrote.refl _ _⟩
        case round =>
          obtain ⟨q, c, hjq, hqn, rfl, rfl, hb, hWx⟩ := hrel
          have f1 : wr.cell? ⟨B, 1, none⟩ = some (.int .i64 x1) := hWx.old ((blk_cell HX.out.2.2.2.2.2.1 1).trans rfl)
          by_cases hil : q < n
          · have hil' : (q : Int) < n := by omega
            have q0 : (0 : Int) ≤ q := by omega
            obtain ⟨⟨y0, y1, y2, y3⟩, hy⟩ : ∃ x, D[q]? = some x := ⟨D[q]'(by rw [H.out.2]; exact hil), List.getElem?_eq_getElem _⟩
            rcases (HX.out.2.2.2.2.2.2.after hWx).at rC_ne with h0 | ⟨b2, o2, hbo, hc2⟩
            · omega
            cases hbo
            have g1 : wr.cell? ⟨b, o + q * 4 + 1, none⟩ = some (.int .i64 y1) := hc2 q _ hy 1 _ rfl
            have hst := noT_drop x1 hy hjq
            dsimp only at hst
            rw [← hb.out] at hst
            have HB := Lib.hid (And.intro hst hWx)
            clear hy hst hb hWx hc2
            have fin : ∀ (d : Bool) (N : Nat), d = (c && !decide (y1 = x1)) → ∃ (q' : Nat) (b' : Bool), k + 1 ≤ q' ∧ q' ≤ n ∧ Value.int .i64 ((q + 1 : Nat) : Int) = .int .i64 (q' : Nat) ∧ Value.bool d = .bool b' ∧ Hid (b' = noT ((D.drop (k + 1)).take (q' - (k + 1))) x1) ∧ Wrote Nil X (wr.drewN N) := fun d N hd => ⟨q + 1, d, by omega, by omega, rfl, rfl, Lib.hid (by rw [HB.out.1]; exact hd), HB.out.2.drewN N⟩
            have HF := Lib.hid fin
            clear fin
            cases c with
            | false =>
              go_wp2
              go_big_quiet (fail)
              go_wp2
              go_roundw
              case rel => exact HF.out false _ rfl
              case measure => simp [intOf]; omega
            | true =>
              by_cases pt : y1 = x1
              · subst pt
                go_wp2
                go_big_quiet (fail)
                go_wp2
                go_roundw
                case rel => exact HF.out false _ (by simp)
                case measure => simp [intOf]; omega
              · have tt : ((y1 : Int) != x1) = true := by simpa using pt
                have HU := Lib.hid pt
                clear pt
                go_wp2
                go_big_quiet (fail)
                go_wp2
                go_roundw
                case rel => exact HF.out true _ (by simp [HU.out])
                case measure => simp [intOf]; omega
          · obtain rfl : q = n := by omega
            have hE : c = noT (D.drop (k + 1)) x1 := by rw [hb.out, List.take_of_length_le (by rw [List.length_drop, H.out.2]; exact Nat.le_refl _)]
            have HE := Lib.hid (And.intro hE (HX.out.2.2.1.after hWx))
            have HG2 := fun (o1 : Obj) => (HX.out.2.2.1.after hWx).after ((Wrote.refl Nil wr).alloc o1)
            have HGG := Lib.hid HG2
            clear hE hb hWx HG2
            cases c with
            | true =>
              have hq : (xs ++ [x1]) ++ queS (D.drop (k + 1)) = queS D := by
                have h1 := HX.out.2.2.2.1
                rw [if_pos ⟨H2.out, HE.out.1.symm⟩] at h1
                rw [List.append_assoc, ← h1]
                exact HX.out.2.2.2.2.1.out
              have HQ := Lib.hid hq
              clear hq
              go_wp2_with (at_builtin; refine wpList_append_own _ rfl _ _ 31 rfl w.heap.size 3 i0 (.int .i64 0) 1 8 Try.underlying31 hi hz0 hz1 hz2 rfl (by decide) dv xs.length (xs.map iv) rfl (HGG.out _).own ⟨wr.heap.size, 0, none⟩ 1 1 [iv x1] rfl rfl (news_at _ _ _ _ (by simp)) (by intro u hu; cases List.mem_singleton.1 hu; rfl) (by unfold maxLen; omega) (by omega) (HGG.out _).size ?_; intro v' w6 hown hgrow hnil; have HG6 := Lib.hid ((HGG.out _).more hown hgrow); clear hown hgrow hnil)
              exact ⟨⟨k + 1, xs ++ [x1], _, rfl, by omega, by rw [List.length_append]; show _ + 1 ≤ _; omega, by simp, HQ, by rw [List.length_append, List.map_append]; exact HG6.out⟩, by simp [intOf]; omega⟩
            | false =>
              have hq : xs ++ queS (D.drop (k + 1)) = queS D := by
                have h1 := HX.out.2.2.2.1
                rw [if_neg (fun q => by rw [← HE.out.1] at q; cases q.2), List.nil_append] at h1
                rw [← h1]
                exact HX.out.2.2.2.2.1.out
              have HQ := Lib.hid hq
              clear hq
              go_wp2
              exact ⟨⟨k + 1, xs, _, rfl, by omega, by omega, by simp, HQ, HE.out.2⟩, by simp [intOf]; omega⟩
      · have t2 : ((x0 : Int) != 2) = true := by simpa using q2
        have hq : xs ++ queS (D.drop (k + 1)) = queS D := by
          have h1 := HX.out.2.2.2.1
          rw [if_neg (fun q => q2 q.1), List.nil_append] at h1
          rw [← h1]
          exact HX.out.2.2.2.2.1.out
        have HQ := Lib.hid hq
        clear q2 hq
        go_wp2
        exact ⟨⟨k + 1, xs, _, rfl, by omega, by omega, by simp, HQ, HX.out.2.2.1⟩, by simp [intOf]; omega⟩
    · obtain rfl : k = n := by omega
      have hE := hxs.out
      rw [List.drop_of_length_le (by rw [H.out.2]; exact Nat.le_refl _)] at hE
      rw [show queS [] = [] from rfl, List.append_nil] at hE
      have HP := Lib.hid (show QuPost w (queS D) (.returned dv) wr from ⟨_, rfl, by rw [← hE]; exact hG⟩)
      clear hE hG hxs
      go_wp2
      go_ret
      exact HP.out
end Go.Proofs.Ytmnephejhkfchaa.Fi
