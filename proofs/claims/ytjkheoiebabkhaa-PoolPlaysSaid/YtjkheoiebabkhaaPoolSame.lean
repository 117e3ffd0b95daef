/- The contract of the comparison of a pool with the reference's. -/
import Derived.Test.YtjkheoiebabkhaaPoolSim
import Derived.Deep.CutRange
namespace Go.Proofs.Ytjkheoiebabkhaa
open Go.RowKit
set_option linter.unusedVariables false

/-- two lists of numbers that were told -/
structure TwoRows (l : List Nat) (sa : Option Addr) (ca : Nat) (sb : Option Addr) (cb : Nat) (wr : World) : Prop where
  a : wr.ownsRow 0 3 1 (.slice sa l.length ca) l.length (l.map idv)
  b : wr.ownsRow 0 3 1 (.slice sb l.length cb) l.length (l.map idv)
theorem own_after2 {w w' : World} {base : Nat} {e : TypeId} {size : Nat} {v : Value} {n : Nat} {xs : List Value} (h : w.ownsRow base e size v n xs) (k : Wrote Nil w w') : w'.ownsRow base e size v n xs := ownsRow_keep h fun b hb => k.block b (h.lt b hb).2 id
/-- behind a row that was told from X on -/
def SmRow (X : World) (l : List Nat) (e : Ending) (w' : World) : Prop := ∃ so cap, e = .returned (.slice so l.length cap) ∧ w'.ownsRow 0 3 1 (.slice so l.length cap) l.length (l.map idv) ∧ Wrote Nil X w'

theorem ofI_no {s : PS} {id : Int} (h : ¬ (1 ≤ id ∧ id ≤ s.n)) : ofI s id = -1 := if_neg h
theorem outI_no {s : PS} {id : Int} (h : ¬ (1 ≤ id ∧ id ≤ s.n)) : outI s id = false := if_neg h

set_option maxRecDepth 100000 in
set_option maxHeartbeats 4000000 in
theorem po_same {w0 w : World} {A : Nat → Prop} {p : Nat} {s : PS} {so : Option Addr} {cap : Nat} {since : Nat → Nat} {C : Nat} (h : PAt w0 w A p s) (hR : RfAt w so s since) (hS : Sim s since C) (hC : C ≤ 1000) :
    Calls Try.prog 15 #[.pointer (some ⟨p, 0, none⟩), .agg #[.slice so s.n cap, .int .i64 (C : Int)], .int .i64 (s.T : Int)] w fun e w' => e = .returned (.bool true) ∧ Wrote Nil w w' := by
  have hI := h.inv
  have hn2 := hI.n2
  have hT2 := hI.T2
  have H := Lib.hid (And.intro h (And.intro hR (And.intro hS hI)))
  obtain ⟨X, hX⟩ : ∃ X, X = w.alloc (.cells #[.slice so s.n cap, .int .i64 (C : Int)] 30) := ⟨_, rfl⟩
  have hW : Wrote Nil w X := by rw [hX]; exact (Wrote.refl _ _).alloc _
  have bX : X.heap[w.heap.size]? = some (.cells #[.slice so s.n cap, .int .i64 (C : Int)] 30 (0, 0)) := by rw [hX]; exact Go.Deep.blk_alloc_new _ _
  have cL : ∀ u, Calls Try.prog 18 #[.pointer (some ⟨p, 0, none⟩)] (X.drewN u) fun e w' => e = .returned (.int .i64 (s.n : Nat)) ∧ w' = X.drewN u := fun u => (pa_len (h.same (hW.drewN u))).mono fun _ _ x => ⟨x.1, x.2.symm⟩
  have cO : ∀ u, Calls Try.prog 17 #[.pointer (some ⟨p, 0, none⟩), .int .i64 0] (X.drewN u) fun e w' => e = .returned (.int .i64 (-1)) ∧ w' = X.drewN u := fun u => by
    have c := pa_of (h.same (hW.drewN u)) 0
    rw [ofI_no (by omega)] at c
    exact c.mono fun _ _ x => ⟨x.1, x.2.symm⟩
  have cP : ∀ u, Calls Try.prog 17 #[.pointer (some ⟨p, 0, none⟩), .int .i64 ((s.n : Int) + 1)] (X.drewN u) fun e w' => e = .returned (.int .i64 (-1)) ∧ w' = X.drewN u := fun u => by
    have c := pa_of (h.same (hW.drewN u)) ((s.n : Int) + 1)
    rw [ofI_no (by omega)] at c
    exact c.mono fun _ _ x => ⟨x.1, x.2.symm⟩
  have cU : ∀ u, Calls Try.prog 19 #[.pointer (some ⟨p, 0, none⟩), .int .i64 0] (X.drewN u) fun e w' => e = .returned (.bool false) ∧ w' = X.drewN u := fun u => by
    have c := pa_out (h.same (hW.drewN u)) 0
    rw [outI_no (by omega)] at c
    exact c.mono fun _ _ x => ⟨x.1, x.2.symm⟩
  have d0 : X.cell? ⟨w.heap.size, 0, none⟩ = some (.slice so s.n cap) := (blk_cell bX 0).trans rfl
  have hwr : IntKind.i64.wrap ((s.n : Int) + 1) = (s.n : Int) + 1 := by rw [IntKind.wrap_i64]; omega
  have HX := Lib.hid (And.intro hX (And.intro hW bX))
  clear h hR hS hI hX hW bX
  go_enter Try.func15, Try.ntmps15
  go_wp2
  rw [← HX.out.1]
  go_big_quiet (first
    | (go_at_call 18; with_reducible exact Calls.quiet_of_same (cL _))
    | (go_at_call 17; with_reducible exact Calls.quiet_of_same (cO _))
    | (go_at_call 17; with_reducible exact Calls.quiet_of_same (cP _))
    | (go_at_call 19; with_reducible exact Calls.quiet_of_same (cU _)))
  generalize hY : X.drewN nq = Y
  have hWY : Wrote Nil w Y := by rw [← hY]; exact HX.out.2.1.drewN nq
  have bY : Y.heap[w.heap.size]? = some (.cells #[.slice so s.n cap, .int .i64 (C : Int)] 30 (0, 0)) := by rw [← hY]; exact HX.out.2.2
  have d0 : Y.cell? ⟨w.heap.size, 0, none⟩ = some (.slice so s.n cap) := (blk_cell bY 0).trans rfl
  have HY := Lib.hid (And.intro hWY bY)
  clear hY hWY bY cL cO cP cU hwr HX
  go_wp2
  clear d0
  have hHY := HY.out.1
  go_loopw [40] (fun i wr => ∃ k : Nat, k ≤ s.n ∧ i = .int .i64 k ∧ Wrote Nil Y wr) (fun i _ => s.n - (intOf i).toNat)
  case atStart => exact ⟨0, Nat.zero_le _, rfl, Wrote.refl _ _⟩
  case round =>
    obtain ⟨k, hk, rfl, hWr⟩ := hrel
    by_cases hkl : k < s.n
    · obtain ⟨b, o, rfl, hc⟩ := rf_at (H.out.2.1.after (hHY.nil hWr)) (show 0 < s.n by omega)
      obtain ⟨y0, y1, y2⟩ := hc k hkl
      clear hc
      have hP := H.out.1.same (hHY.nil hWr)
      have cO : ∀ W, Wrote Nil wr W → ∀ u, Calls Try.prog 17 #[.pointer (some ⟨p, 0, none⟩), .int .i64 ((k : Int) + 1)] (W.drewN u) fun e w' => e = .returned (.int .i64 (s.own (k + 1))) ∧ w' = W.drewN u := fun W hW u => by
        have c := pa_of (hP.same (hW.drewN u)) (((k + 1 : Nat)) : Int)
        rw [ofI_at (by omega) (by omega), Int.natCast_add, Int.natCast_one] at c
        exact c.mono fun _ _ x => ⟨x.1, x.2.symm⟩
      have cU : ∀ W, Wrote Nil wr W → ∀ u, Calls Try.prog 19 #[.pointer (some ⟨p, 0, none⟩), .int .i64 ((k : Int) + 1)] (W.drewN u) fun e w' => e = .returned (.bool (s.out (k + 1))) ∧ w' = W.drewN u := fun W hW u => by
        have c := pa_out (hP.same (hW.drewN u)) (((k + 1 : Nat)) : Int)
        rw [outI_at (by omega) (by omega), Int.natCast_add, Int.natCast_one] at c
        exact c.mono fun _ _ x => ⟨x.1, x.2.symm⟩
      have hkI : (k : Int) < (s.n : Int) := by omega
      have hwr : IntKind.i64.wrap ((k : Int) + 1) = (k : Int) + 1 := by rw [IntKind.wrap_i64]; omega
      have hk9 : (k : Int) < 512 := by omega
      have HWr := Lib.hid hWr
      clear hP hWr
      generalize s.own (k + 1) = O1 at y0 cO
      generalize since (k + 1) = S1 at y1
      generalize s.out (k + 1) = B1 at y2 cU
      go_upto_region 6 with fail
      obtain ⟨Z, hZ⟩ : ∃ Z, Z = wr.alloc (.cells #[.int .i64 O1, .int .i64 (S1 : Int), .bool B1] 57) := ⟨_, rfl⟩
      have hZW : Wrote Nil wr Z := by rw [hZ]; exact (Wrote.refl _ _).alloc _
      have bZ : Z.heap[wr.heap.size]? = some (.cells #[.int .i64 O1, .int .i64 (S1 : Int), .bool B1] 57 (0, 0)) := by rw [hZ]; exact Go.Deep.blk_alloc_new _ _
      have cO := cO Z hZW
      have cU := cU Z hZW
      have z0 : Z.cell? ⟨wr.heap.size, 0, none⟩ = some (.int .i64 O1) := (blk_cell bZ 0).trans rfl
      have z2 : Z.cell? ⟨wr.heap.size, 2, none⟩ = some (.bool B1) := (blk_cell bZ 2).trans rfl
      rw [← hZ]
      have HZ := Lib.hid (HWr.out.nil hZW)
      clear hZ hZW bZ y0 y1 y2
      go_big_quiet (first
        | (go_at_call 17; with_reducible exact Calls.quiet_of_same (cO _))
        | (go_at_call 19; with_reducible exact Calls.quiet_of_same (cU _)))
      clear hwr
      go_wp2
      go_roundw
      case rel => exact ⟨k + 1, by omega, by go_num, HZ.out.drewN nq⟩
      case measure => simp [intOf]; omega
    · obtain hkn : k = s.n := by omega
      have HWr := Lib.hid hWr
      clear hWr
      have hkI : ¬ (k : Int) < (s.n : Int) := by omega
      clear hkn
      go_wp2
      go_loopw [9] (fun i wr => ∃ τ : Int, -1 ≤ τ ∧ τ ≤ s.T + 1 ∧ i = .int .i64 τ ∧ Wrote Nil Y wr) (fun i _ => (s.T + 1 - intOf i).toNat)
      case atStart => exact ⟨-1, by omega, by omega, rfl, HWr.out⟩
      case round =>
        clear HWr
        obtain ⟨τ, t0, t1, rfl, hWr⟩ := hrel
        by_cases hτ : τ ≤ s.T
        · have hP := H.out.1.same (hHY.nil hWr)
          have hRf := H.out.2.1.after (hHY.nil hWr)
          obtain ⟨l, hl⟩ : ∃ l, l = s.rowI τ := ⟨_, rfl⟩
          have hl9 : l.length ≤ 512 := by rw [hl]; exact rowI_len H.out.2.2.2 τ
          have bW := (hWr.block _ (blk_lt HY.out.2) id).trans HY.out.2
          have d0 : wr.cell? ⟨w.heap.size, 0, none⟩ = some (.slice so s.n cap) := (blk_cell bW 0).trans rfl
          have d1 : wr.cell? ⟨w.heap.size, 1, none⟩ = some (.int .i64 (C : Int)) := (blk_cell bW 1).trans rfl
          have cA : ∀ W, Wrote Nil wr W → Calls Try.prog 16 #[.pointer (some ⟨p, 0, none⟩), .int .i64 τ] W (SmRow W l) := fun W hW => by
            refine (pa_row (hP.same hW) τ).mono ?_
            rintro e w' ⟨so, cap, rfl, hown, hW'⟩
            rw [← hl] at hown ⊢
            exact ⟨so, cap, rfl, ownsRow_base hown (Nat.zero_le _), hW'⟩
          have cB : ∀ W, Wrote Nil wr W → Calls Try.prog 20 #[.agg #[.slice so s.n cap, .int .i64 (C : Int)], .int .i64 τ] W (SmRow W l) := fun W hW => by
            refine (rf_row (cap := cap) (hRf.after hW) (by omega) C hC τ).mono ?_
            rintro e w' ⟨so', cap', rfl, hown, hW'⟩
            rw [H.out.2.2.1.all H.out.2.2.2, ← hl] at hown ⊢
            exact ⟨so', cap', rfl, ownsRow_base hown (Nat.zero_le _), hW'⟩
          have HWr := Lib.hid hWr
          have HC := Lib.hid (And.intro cA cB)
          have HB := Lib.hid bW
          clear hP hRf hl hWr cA cB bW
          go_upto_region 12 with fail
          go_cut [10, 11] from 62 to 92 (fun v10 v11 wx => ∃ sa ca sb cb, v10 = .slice sa l.length ca ∧ v11 = .slice sb l.length cb ∧ TwoRows l sa ca sb cb wx ∧ Wrote Nil Y wx)
          case first =>
            go_region_held3 (fun w' => w'.cell? ⟨w.heap.size, 0, none⟩ = some (.slice so s.n cap) ∧ w'.cell? ⟨w.heap.size, 1, none⟩ = some (.int .i64 (C : Int))) (first | exact ⟨e0, e1⟩ | exact ⟨d0, d1⟩ | go_keep)
              (first
                | (go_at_call 16; (first | (with_reducible refine (HC.out.1 _ hWb).mono ?_) | (with_reducible refine (HC.out.1 _ (Wrote.refl Nil wr).drew).mono ?_)); intro e wA h2; unfold SmRow at h2; obtain ⟨sa, ca, rfl, hA, hWa2⟩ := h2; have hWa : Wrote Nil wr wA := (by first | exact hWb.nil hWa2 | exact ((Wrote.refl Nil wr).drew).nil hWa2); have e0 := hWa.old d0; have e1 := hWa.old d1; have HA := Lib.hid hA; clear hA)
                | (go_at_call 20; (first | (with_reducible refine (HC.out.2 _ hWa).mono ?_) | (with_reducible refine (HC.out.2 _ (Wrote.refl Nil wr).drew).mono ?_)); intro e wB h2; unfold SmRow at h2; obtain ⟨sb, cb, rfl, hB, hWb2⟩ := h2; have hWb : Wrote Nil wr wB := (by first | exact hWa.nil hWb2 | exact ((Wrote.refl Nil wr).drew).nil hWb2); have e0 := hWb.old d0; have e1 := hWb.old d1; have HB2 := Lib.hid hB; clear hB))
            all_goals
              go_wp2
              go_meet
              first
                | exact ⟨sa, ca, sb, cb, rfl, rfl, ⟨own_after2 HA.out hWb2, HB2.out⟩, HWr.out.nil hWb⟩
                | exact ⟨sa, ca, sb, cb, rfl, rfl, ⟨HA.out, own_after2 HB2.out hWa2⟩, HWr.out.nil hWa⟩
          case rest =>
            clear d0 d1 HC HB HWr
            obtain ⟨sa, ca, sb, cb, rfl, rfl, hTR, hWc⟩ := hcut
            have HT := Lib.hid (And.intro hTR hWc)
            clear hTR hWc
            go_wp2
            go_loopw [80] (fun i wr => ∃ j : Nat, j ≤ l.length ∧ i = .int .i64 j ∧ TwoRows l sa ca sb cb wr ∧ Wrote Nil Y wr) (fun i _ => l.length - (intOf i).toNat)
            case atStart => exact ⟨0, Nat.zero_le _, rfl, HT.out.1, HT.out.2⟩
            case round =>
              clear HT
              obtain ⟨j, hj, rfl, hTR, hWc⟩ := hrel
              by_cases hjl : j < l.length
              · obtain ⟨x, hx⟩ : ∃ x, l[j]? = some x := ⟨_, List.getElem?_eq_getElem hjl⟩
                rcases row_cell hTR.a with h0 | ⟨ga, rfl, ha⟩
                · omega
                rcases row_cell hTR.b with h0 | ⟨gb, rfl, hb⟩
                · omega
                have c0 := ha j x hx
                have c1 := hb j x hx
                have hjI : (j : Int) < (l.length : Int) := by omega
                have HT := Lib.hid (And.intro hTR hWc)
                clear hTR hWc ha hb hx
                go_wp2
                go_big_quiet (fail)
                go_wp2
                go_roundw
                case rel => exact ⟨j + 1, by omega, by go_num, ⟨own_after2 HT.out.1.a ((Wrote.refl Nil wr).drewN nq), own_after2 HT.out.1.b ((Wrote.refl Nil wr).drewN nq)⟩, HT.out.2.drewN nq⟩
                case measure => simp [intOf]; omega
              · obtain hjn : j = l.length := by omega
                have HT := Lib.hid hWc
                have hjI : ¬ (j : Int) < (l.length : Int) := by omega
                clear hTR hWc hjn
                go_wp2
                go_roundw
                case rel => exact ⟨τ + 1, by omega, by omega, by go_num, HT.out⟩
                case measure => simp [intOf]; omega
        · have HW := Lib.hid (hHY.nil hWr)
          clear hWr
          go_wp2
          go_ret
          exact ⟨rfl, HW.out⟩
end Go.Proofs.Ytjkheoiebabkhaa
