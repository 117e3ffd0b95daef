/- A new lock and its port, used over it; the document's example of a hierarchical lock. -/
import Derived.Test.YteacdcdjdbobnaaGreatLockFine
import Derived.Test.YteacdcdjdbobnaaGreatHierOrd
import Derived.Laws.StructEq
namespace Go.Proofs.YteacdcdjdbobnaaGreat
open Go.RowKit Go.BigFrame
set_option linter.unusedVariables false
set_option maxRecDepth 100000

/-! ### a new lock and its port -/
def newF (zs : List Int) (n t : Nat) : FL := ⟨newSeat n false false, fun j => zs.getD j 0, fun _ => 0, fun j => (j : Int) + 1, fun _ => 0, fun _ => 0, fun _ => 0, newS t (wordsH n)⟩
theorem homesH_ok {zs : List Int} (h : homesOK zs = true) : homesOK (homesH zs) = true := by
  have h0 := getD_ok h
  unfold homesOK at h ⊢
  unfold homesH
  rw [List.all_append, List.all_append, List.all_append, h]
  show ((okH (zs.getD 0 0) && true) && (upTo 8).all okH && true && (okH (zs.getD 0 0) && true)) = true
  rw [h0, show (upTo 8).all okH = true from by decide]
  rfl
theorem wordsH_rng {n : Nat} (hn : n ≤ 64) (j : Nat) : 0 ≤ (wordsH n).getD j 0 ∧ (wordsH n).getD j 0 < 4294967296 := by
  rw [List.getD_eq_getElem?_getD]
  cases e : (wordsH n)[j]? with
  | none => decide
  | some x =>
    have hx := List.mem_of_getElem? e
    unfold wordsH at hx
    simp only [List.mem_append, List.mem_singleton, List.mem_replicate] at hx
    show 0 ≤ x ∧ x < 4294967296
    omega
theorem wordsH_len (n : Nat) : (wordsH n).length = n + 10 := by simp only [wordsH, List.length_append, List.length_singleton, List.length_replicate]; omega
theorem homesH_len (zs : List Int) : (homesH zs).length = zs.length + 10 := by simp only [homesH, List.length_append, List.length_singleton, upTo_len]; omega
/-- behind made -/
def MdPost (w : World) (n : Nat) (zs : List Int) (e : Ending) (w' : World) : Prop := ∃ L : Lp, e = .returned (.tuple #[.pointer (some ⟨L.lb, 0, none⟩), .pointer (some ⟨L.q.p, 0, none⟩)]) ∧ LkS w w' L (newF zs n n) ∧ L.a1 = 0 ∧ L.a2 = 1 ∧ L.hs = homesH zs
def PtPost (w0 : World) (n : Nat) (zs : List Int) (lb : Nat) (e : Ending) (w' : World) : Prop := ∃ L : Lp, e = .returned (.tuple #[.pointer (some ⟨L.q.p, 0, none⟩), .int .i64 0]) ∧ (L.a1 = 0 ∧ L.a2 = 1 ∧ LkP w0 w' L (newF zs n n)) ∧ L.lb = lb ∧ L.hs = homesH zs
theorem fl_port {w0 w w1 : World} {q q' : Pl} {n : Nat} {zs : List Int} {L0 : Lp} (h0 : Wrote Nil w0 w) (hq : ∀ k, q.F k → w0.heap.size ≤ k) (n1 : 1 ≤ n) (n2 : n ≤ 64) (ho : homesOK zs = true) (hn : zs.length = n)
    (hR : FlRaw w1 L0 (.pointer none) (newSeat n false false) (fun _ => 0) (newA zs)) (hl : w.heap.size ≤ L0.lb ∧ w.heap.size ≤ L0.p ∧ w.heap.size ≤ L0.b ∧ w.heap.size ≤ L0.tb) (h1 : L0.a1 = 0) (h2 : L0.a2 = 1) (hqq : q'.p = q.p) (hP : PlanAt w1 q' n (homesH zs) (wordsH n)) (hW : Wrote q.F w w1) :
    Calls Tryz.prog 19 #[.pointer (some ⟨q.p, 0, none⟩)] w1 (PtPost w0 n zs L0.lb) := by
  have c := plport_good hP (fun j => wordsH_rng n2 j) n1 n2 (by rw [homesH_len, hn]; omega) (homesH_ok ho)
  rw [hqq] at c
  refine c.mono ?_
  rintro e w' ⟨qq, rfl, hA, hk0, hk3, hW2⟩
  have s0 := h0.size
  exact ⟨{ L0 with q := qq, hs := homesH zs }, rfl, ⟨h1, h2, lp_made (f := newF zs n n) hR (by omega) (h0.trans hW fun k hk e => by have := hq k e; unfold Nil; omega) hA hk0 hk3 hW2⟩, rfl, rfl⟩
set_option maxHeartbeats 4000000 in
theorem fl_made {w : World} {b o n cap : Nat} {zs : List Int} (hr : RowAt .i64 w (some ⟨b, o, none⟩) n zs) (hb : b < w.heap.size) (ho : homesOK zs = true) (n1 : 1 ≤ n) (n2 : n ≤ 64) :
    Calls Tryz.prog 6 #[.slice (some ⟨b, o, none⟩) n cap] w (MdPost w n zs) := by
  have HH := Lib.hid (And.intro hr (And.intro hb ho))
  have HL := Lib.hid hr.len
  have cP := fun W => plnew_any (n : Int) W
  clear hr hb ho
  go_enter Tryz.func6, Tryz.ntmps6
  go_wp2_with (first
    | (go_at_call 17; (with_reducible refine (cP _).mono ?_); rintro e w1 ⟨q, rfl, hP, hnew, hW1⟩; have H1 := Lib.hid (And.intro hP (And.intro hnew hW1)); clear hP hnew hW1)
    | (go_at_call 18; (with_reducible refine (fn_new H1.out.1 (HH.out.1.after H1.out.2.2) HH.out.2.2 n1 n2 (Nat.zero_le _) (fun e => by have := H1.out.2.1 _ e; have := HH.out.2.1; omega)).mono ?_); intro e w2 hq; unfold NewHierPost at hq; obtain ⟨L0, q2, he, hR, hl, ha1, ha2, hqq, hP2, hW2, hC2⟩ := hq; obtain ⟨lb, hlb0⟩ : ∃ lb, lb = L0.lb := ⟨_, rfl⟩; rw [← hlb0] at he; subst he; have cQ := fl_port (w0 := w) (zs := zs) H1.out.2.2 H1.out.2.1 n1 n2 HH.out.2.2 HL.out hR hl ha1 ha2 hqq hP2 hW2; rw [← hlb0] at cQ; clear hR hl ha1 ha2 hqq hP2 hW2 hC2 hlb0)
    | (go_at_call 19; (with_reducible refine cQ.mono ?_); clear cQ; intro e w3 hq; unfold PtPost at hq; obtain ⟨L, rfl, ⟨ha1, ha2, hL⟩, hlb, hhs⟩ := hq; subst hlb; have HA := Lib.hid (And.intro ha1 (And.intro ha2 hhs)); have H2 := Lib.hid hL; clear ha1 ha2 hL hhs)
    | (go_at_call 20; ((with_reducible refine (lp_use H2.out).mono ?_); rintro e w4 ⟨rfl, hL, _⟩; have H3 := Lib.hid hL; clear hL)))
  go_ret2
  exact ⟨L, rfl, H3.out, HA.out⟩
theorem ord_new (zs : List Int) (n : Nat) (hn : n ≤ 8) (ho : homesOK zs = true) : OrdJ (newF zs n n) none [] (fun _ => []) := by
  have hz := fun i => getD_ok ho i
  have hz : ∀ i, 0 ≤ zs.getD i 0 ∧ zs.getD i 0 ≤ 7 := fun i => by have := hz i; unfold okH at this; have := of_decide_eq_true this; omega
  refine ⟨hn, rfl, wordsH_len n, by simp [newF, newS, newSeat], ⟨fun _ => 0, n + 1, ?_⟩, fun t _ => hz t, fun t => by show (0 : Int) ≤ 0 ∧ (0 : Int) ≤ 7; decide, fun t _ => by show (0 : Int) ≤ 0 ∧ (0 : Int) ≤ 3; decide, fun t _ q => absurd (show (0 : Int) = 3 from q) (by decide), fun t _ _ _ => rfl, fun t => by show (0 : Int) ≤ (t : Int) + 1; omega, fun t => Int.le_refl 0, fun t => Int.le_refl 0⟩
  have hT : wT (newF zs n n).ps = ((n + 1 : Nat) : Int) := by show (n : Int) + 1 = _; omega
  rw [hT]
  refine Cor.start n _ _ _ (fun t => ?_) _ (fun t => roI rfl) _ _ _ (fun c => ?_) ?_
  · show ((t : Int) + 1).toNat = t + 1
    omega
  · unfold wK
    split
    · show ([(n : Int) + 1] ++ List.replicate 8 0 ++ List.replicate n 0 ++ [4294967292]).getD (c + 1) 0 = 0
      have : c = 0 ∨ c = 1 ∨ c = 2 ∨ c = 3 ∨ c = 4 ∨ c = 5 ∨ c = 6 ∨ c = 7 := by omega
      rcases this with rfl | rfl | rfl | rfl | rfl | rfl | rfl | rfl <;> simp [List.getD_eq_getElem?_getD, List.replicate]
    · rfl
  · have : wX (newF zs n n).ps (n + 1) = 4294967292 := by
      show ([(n : Int) + 1] ++ List.replicate 8 0 ++ List.replicate n 0 ++ [4294967292]).getD (n + 9) 0 = 4294967292
      rw [List.getD_eq_getElem?_getD, List.getElem?_append_right (by simp)]
      simp
    rw [this]
    decide

/-! ### the document's example -/
def exG (L : Lp) : Nat → FL
  | 0 => (newF [3] 1 1).lock 0 (-1)
  | i + 1 => (exG L i).step L 0 0
structure ExAll (L : Lp) : Prop where
  l1 : lockE (newF [3] 1 1).s 0 (-1) = 0
  dd : ∀ i : Nat, i < 6 → (exG L i).did L 0 0 = ⟨0, (i : Int) == 1, (i : Int) == 3, false⟩
  d6 : (exG L 6).did L 0 0 = ⟨1, false, false, true⟩
  dG : ∀ i : Nat, i < 7 → (exG L i).ps.D.length < 4611686018427387904
theorem dd_of {a b : Dd} (h : (a.ev == b.ev && a.enq == b.enq && a.arr == b.arr && a.lead == b.lead) = true) : a = b := by
  cases a; cases b
  simpa [and_assoc] using h
theorem ex_all (L : Lp) (h1 : L.a1 = 0) (h2 : L.a2 = 1) : ExAll L := by
  obtain ⟨a, b, c, d, x, y, q, hs⟩ := L
  obtain rfl : x = 0 := h1
  obtain rfl : y = 1 := h2
  refine ⟨by decide, fun i hi => ?_, by kernel_rfl, fun i hi => ?_⟩
  · have : i = 0 ∨ i = 1 ∨ i = 2 ∨ i = 3 ∨ i = 4 ∨ i = 5 := by omega
    rcases this with rfl | rfl | rfl | rfl | rfl | rfl <;> exact dd_of (by kernel_rfl)
  · have : i = 0 ∨ i = 1 ∨ i = 2 ∨ i = 3 ∨ i = 4 ∨ i = 5 ∨ i = 6 := by omega
    rcases this with rfl | rfl | rfl | rfl | rfl | rfl | rfl <;> exact of_decide_eq_true (by kernel_rfl)
theorem rowO (w : World) (x : Int) : RowAt .i64 (w.alloc (.cells #[.int .i64 x] 3)) (some ⟨w.heap.size, 0, none⟩) 1 [x] := by
  refine ⟨rfl, fun e => (by cases e), fun b hb j hj => ?_⟩
  have e : j = 0 := by omega
  subst e
  cases hb
  exact (blk_cell (Go.Deep.blk_alloc_new w (.cells #[.int .i64 x] 3)) 0).trans rfl
set_option maxHeartbeats 4000000 in
theorem fl_awake (w : World) : Calls Tryz.prog 5 #[] w (AwakePost w) := by
  obtain ⟨W0, hW0⟩ : ∃ W0, W0 = w.alloc (.cells #[.int .i64 3] 3) := ⟨_, rfl⟩
  have cM : Calls Tryz.prog 6 #[.slice (some ⟨w.heap.size, 0, none⟩) 1 1] W0 (MdPost W0 1 [3]) := fl_made (w := W0) (cap := 1) (by rw [hW0]; exact rowO w 3) (by rw [hW0, Go.Deep.nblk_alloc]; omega) (zs := [3]) (by decide) (by decide) (by decide)
  have hWz : Wrote Nil w W0 := by rw [hW0]; exact (Wrote.refl _ w).alloc _
  have HW := Lib.hid hWz
  rw [hW0] at cM
  have H00 := Lib.hid hW0
  clear hWz hW0
  go_enter Tryz.func5, Tryz.ntmps5
  go_wp2_with (first
    | (go_at_call 6; (with_reducible refine cM.mono ?_); intro e w1 hq; unfold MdPost at hq; obtain ⟨L, rfl, hL, h1, h2, _⟩ := hq; rw [← H00.out] at hL; have c0 := hL.cell0; have HA := Lib.hid (ex_all L h1 h2); have H1 := Lib.hid hL; clear hL h1 h2)
    | (go_at_call 15; (with_reducible refine (ls_lock H1.out 0 (-1)).mono ?_); intro e w2 hq; unfold LsPost at hq; obtain ⟨rfl, hL, _⟩ := hq; rw [HA.out.l1]; have H2 := Lib.hid (show LkS W0 w2 L (exG L 0) from hL); clear hL))
  clear H1
  go_loopw [3, 20] (fun _ i wr => ∃ k : Nat, k ≤ 6 ∧ i = .int .i64 k ∧ LkS W0 wr L (exG L k)) (fun _ i _ => 6 - (intOf i).toNat)
  case atStart => exact ⟨0, Nat.zero_le _, rfl, H2.out⟩
  case round =>
    clear H2
    obtain ⟨k, hk, rfl, hL⟩ := hrel
    by_cases hlt : k < 6
    · have jk : (k : Int) < 6 := by omega
      have HL := Lib.hid hL
      have HK := Lib.hid (And.intro (HA.out.dG k (by omega)) (HA.out.dd k hlt))
      clear hL
      go_wp2_with (go_at_call 16; (with_reducible refine (ls_step HL.out 0 0 0 HK.out.1).mono ?_); intro e w3 hq; unfold LsPost at hq; obtain ⟨rfl, hL, _⟩ := hq; rw [HK.out.2]; dsimp only [Dd.val]; have H3 := Lib.hid (show LkS W0 w3 L (exG L (k + 1)) from hL); clear hL)
      go_roundw
      case rel => exact ⟨k + 1, by omega, by go_num, H3.out⟩
      case measure => simp [intOf]; omega
    · obtain rfl : k = 6 := by omega
      have HL := Lib.hid hL
      have HK := Lib.hid (HA.out.dG 6 (by omega))
      clear hL
      go_wp2_with (go_at_call 16; (with_reducible refine (ls_step HL.out 0 0 0 HK.out).mono ?_); intro e w3 hq; unfold LsPost at hq; obtain ⟨rfl, hL, _⟩ := hq; rw [HA.out.d6]; dsimp only [Dd.val]; have H3 := Lib.hid hL; clear hL)
      go_ret
      exact ⟨rfl, HW.out.nil H3.out.wr⟩
end Go.Proofs.YteacdcdjdbobnaaGreat
