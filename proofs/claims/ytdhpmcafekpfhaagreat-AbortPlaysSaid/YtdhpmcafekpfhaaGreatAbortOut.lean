/- The contract of an abortable lock's Out: how many of a context's nodes are out. -/
import Derived.Test.YtdhpmcafekpfhaaGreatAbortDo
import Derived.Deep.LoopGhost
namespace Go.Proofs.YtdhpmcafekpfhaaGreat
open Go.RowKit Go.BigFrame
set_option linter.unusedVariables false
set_option maxRecDepth 100000

/-- is a node's out not 0? -/
def FL.isOut (f : FL) (L : Lp) (i : Nat) : Bool := decide (f.ps.ws.getD (L.oA i).toNat 0 ≠ 0)
def FL.outs (f : FL) (L : Lp) (t : Int) : Nat := (((newPl f.s.n f.ea).rowI t).filter (f.isOut L)).length
theorem rowI_le {n e : Nat} {t : Int} (hn : n ≤ 64) (he : e ≤ 8) : ((newPl n e).rowI t).length ≤ 8 ∧ ∀ (k x : Nat), ((newPl n e).rowI t)[k]? = some x → 1 ≤ x ∧ x ≤ 512 := by
  unfold PS.rowI
  split
  · rename_i ht
    have hT : t.toNat < n := by have : (newPl n e).T = n := rfl; omega
    rw [new_row hT]
    refine ⟨by simp; omega, fun k x hx => ?_⟩
    rw [List.getElem?_map] at hx
    cases hk : (List.range e)[k]? with
    | none => rw [hk] at hx; exact absurd hx (by simp)
    | some j =>
      rw [hk] at hx
      have hj : j < e := by have := (List.getElem?_eq_some_iff.1 hk); obtain ⟨h1, h2⟩ := this; rw [List.getElem_range] at h2; rw [List.length_range] at h1; omega
      have hx : t.toNat * e + j + 1 = x := by simpa using hx
      have h1 := Nat.mul_le_mul_right e (show t.toNat + 1 ≤ n by omega)
      have h2 : n * e ≤ 64 * 8 := Nat.mul_le_mul hn he
      rw [Nat.succ_mul] at h1
      omega
  · exact ⟨by simp, fun k x hx => by simp at hx⟩
/-- amid the count: so many of the first k -/
def CntQ (f : FL) (L : Lp) (l : List Nat) (k : Nat) : Nat := ((l.take k).filter (f.isOut L)).length
theorem cnt_no {f : FL} {L : Lp} {l : List Nat} {k x : Nat} (hx : l[k]? = some x) (h : f.isOut L x = false) : CntQ f L l (k + 1) = CntQ f L l k := by
  unfold CntQ; rw [List.take_add_one, hx, List.filter_append]; simp [h]
theorem cnt_yes {f : FL} {L : Lp} {l : List Nat} {k x : Nat} (hx : l[k]? = some x) (h : f.isOut L x = true) : CntQ f L l (k + 1) = CntQ f L l k + 1 := by
  unfold CntQ; rw [List.take_add_one, hx, List.filter_append]; simp [h]
theorem cnt_le (f : FL) (L : Lp) (l : List Nat) (k : Nat) : CntQ f L l k ≤ l.length := by
  unfold CntQ
  have h1 := List.length_filter_le (f.isOut L) (l.take k)
  have h2 : (l.take k).length ≤ l.length := by rw [List.length_take]; omega
  omega
set_option maxHeartbeats 2000000 in
theorem fl_outs {w : World} {L : Lp} {f : FL} (h : LkAt w L f) (t : Int) :
    Calls Tryz.prog 16 #[.pointer (some ⟨L.lb, 0, none⟩), .int .i64 t] w fun e w' => e = .returned (.int .i64 ((f.outs L t : Nat) : Int)) ∧ Wrote Nil w w' := by
  have c1 := h.raw.cell1
  have c0 : w.cell? ⟨L.q.p, 0, none⟩ = some (.pointer (some ⟨L.q.m, 0, none⟩)) := by rw [blk_cell h.port.obj]; rfl
  obtain ⟨Q, c2, hQ⟩ := h.raw.cell2
  have cW := words_any h.port.mem
  obtain ⟨l, hl⟩ : ∃ l, l = (newPl f.s.n f.ea).rowI t := ⟨_, rfl⟩
  obtain ⟨l8, lx⟩ := rowI_le (t := t) h.raw.seat.n2 h.raw.each.2
  rw [← hl] at l8 lx
  have cR := fun W (k : Wrote Nil w W) => po_row (hQ.after k) t (by rw [← hl]; omega)
  rw [← hl] at cR
  have hsm := h.port.words
  have hao : f.outs L t = CntQ f L l l.length := by unfold FL.outs CntQ; rw [List.take_length, hl]
  rw [hao]
  have HE := Lib.hid (And.intro h (And.intro lx (And.intro c2 cR)))
  clear h hQ hao hl lx cR
  go_enter Tryz.func16, Tryz.ntmps16
  go_wp2_with (first
    | (go_at_call 32; (with_reducible refine cW.mono ?_); rintro e w1 ⟨g, rfl, hrow, hnew, hW⟩; have d1 := hW.cell c1 id; have d2 := hW.cell c2 id; have HW1 := Lib.hid (And.intro hrow hW); clear hrow hnew hW cW)
    | (go_at_call 33; (with_reducible refine (HE.out.2.2.2 _ HW1.out.2).mono ?_); rintro e w2 ⟨so, cap, rfl, hO, hW⟩; have HW2 := Lib.hid (And.intro hO (HW1.out.2.nil hW)); have HR := Lib.hid (show ∀ j, j < f.ps.ws.length → w2.cell? ⟨g, j, none⟩ = some (.int .u32 (f.ps.ws.getD j 0)) from fun j hj => hW.cell (HW1.out.1.cell hj) id); clear hO hW))
  have hL := HE.out.1.after HW2.out.2
  have e1 := hL.raw.cell1
  have HL := Lib.hid hL
  clear hL d1 d2 c0 c1 c2
  obtain ⟨m, hm⟩ : ∃ m, m = l.length := ⟨_, rfl⟩
  rw [← hm]
  have HM := Lib.hid hm
  rw [← hm] at l8
  clear hm
  go_loop [5, 25] (fun v5 i => ∃ k : Nat, k ≤ m ∧ i = .int .i64 k ∧ v5 = .int .i64 ((CntQ f L l k : Nat) : Int)) (fun _ i => m - (intOf i).toNat)
  case atStart => exact ⟨0, Nat.zero_le _, rfl, rfl⟩
  case round =>
    obtain ⟨k, hk, rfl, rfl⟩ := hrel
    by_cases hkm : k < m
    · have jm : (k : Int) < m := by omega
      obtain ⟨x, hx⟩ : ∃ x, l[k]? = some x := ⟨_, List.getElem?_eq_getElem (by have := HM.out; omega)⟩
      have hxr := HE.out.2.1 k x hx
      obtain ⟨g2, hg2, hc⟩ : ∃ g2, so = some ⟨g2, 0, none⟩ ∧ w2.cell? ⟨g2, k, none⟩ = some (.int .i64 (x : Int)) := by
        rcases row_cell HW2.out.1 with h0 | ⟨g2, hg2, hc⟩
        · have := HM.out; omega
        · exact ⟨g2, hg2, hc k x hx⟩
      subst hg2
      have wx : IntKind.u32.wrap (x : Int) = x := by rw [IntKind.wrap_u32]; omega
      have cG := fl_out HL.out (x : Int) (by omega)
      obtain ⟨a0, a1, a2⟩ := HL.out.raw.adr
      obtain ⟨j, hj⟩ : ∃ j : Nat, L.oA (x : Int) = (j : Int) := ⟨(L.oA x).toNat, by unfold Lp.oA; omega⟩
      have hio : f.isOut L x = decide (f.ps.ws.getD j 0 ≠ 0) := by unfold FL.isOut; rw [hj, Int.toNat_natCast]
      rw [hj] at cG
      have hcl := cnt_le f L l k
      have wc : IntKind.i64.wrap (((CntQ f L l k : Nat) : Int) + 1) = ((CntQ f L l k : Nat) : Int) + 1 := by rw [IntKind.wrap_i64]; have := HM.out; omega
      have rk : (0 : Int) ≤ (k : Int) := by omega
      by_cases ha : j < f.ps.ws.length
      · have hcj := HR.out j ha
        have rj0 : (0 : Int) ≤ (j : Int) := by omega
        have rj1 : (j : Int) < (f.ps.ws.length : Int) := by omega
        by_cases hv : f.ps.ws.getD j 0 = 0
        · have hcn := cnt_no hx (show f.isOut L x = false by rw [hio, hv]; rfl)
          rw [hv] at hcj
          have HC := Lib.hid hcn
          clear hcn hio hv hx hxr a0 a1 a2 hj hcl wc
          go_wp2_with (go_at_call 34; (with_reducible refine cG.mono ?_); rintro e w' ⟨rfl, rfl⟩)
          go_round
          case rel => exact ⟨k + 1, by omega, by go_num, by rw [HC.out]⟩
          case measure => simp [intOf]; omega
        · have hcn := cnt_yes hx (show f.isOut L x = true by rw [hio]; exact decide_eq_true hv)
          generalize f.ps.ws.getD j 0 = v at hcj hv
          have b1 : (v != 0) = true := by simpa [bne, BEq.beq] using hv
          have HC := Lib.hid hcn
          clear hcn hio hv hx hxr a0 a1 a2 hj hcl
          go_wp2_with (go_at_call 34; (with_reducible refine cG.mono ?_); rintro e w' ⟨rfl, rfl⟩)
          go_round
          case rel => exact ⟨k + 1, by omega, by go_num, by rw [HC.out]; rfl⟩
          case measure => simp [intOf]; omega
      · have hcn := cnt_no hx (show f.isOut L x = false by rw [hio, List.getD_eq_getElem?_getD, List.getElem?_eq_none (by omega)]; rfl)
        have rj1 : ¬ (j : Int) < (f.ps.ws.length : Int) := by omega
        have HC := Lib.hid hcn
        clear hcn hio ha hx hxr a0 a1 a2 hj hcl wc
        go_wp2_with (go_at_call 34; (with_reducible refine cG.mono ?_); rintro e w' ⟨rfl, rfl⟩)
        go_round
        case rel => exact ⟨k + 1, by omega, by go_num, by rw [HC.out]⟩
        case measure => simp [intOf]; omega
    · obtain rfl : k = m := by omega
      go_wp2
      go_ret
      refine ⟨?_, HW2.out.2⟩
      show Ending.returned (Value.int .i64 ((CntQ f L l k : Nat) : Int)) = _
      first | rfl | rw [HM.out]
end Go.Proofs.YtdhpmcafekpfhaaGreat
