/- A new lock and its port, used over it; the document's example of an abortable lock. -/
import Derived.Test.YtdhpmcafekpfhaaGreatLockFine
import Derived.Test.YtdhpmcafekpfhaaGreatAbortOrd
import Derived.Test.YtdhpmcafekpfhaaGreatAbortOut
import Derived.Laws.StructEq
namespace Go.Proofs.YtdhpmcafekpfhaaGreat
open Go.RowKit Go.BigFrame
set_option linter.unusedVariables false
set_option maxRecDepth 100000

/-! ### a new lock and its port -/
abbrev zerosA (m : Nat) : List Int := [0] ++ List.replicate (3 * m) 0
abbrev homesA (ea : Nat) (zs : List Int) : List Int := [zs.getD 0 0] ++ triH ea zs (zs.length * ea)
def newF (n ea t : Nat) : FL := ⟨newSeat n true false, ea, fun _ => 1, fun _ => 0, fun _ => 0, fun _ => 0, newS t (zerosA (n * ea))⟩
theorem getD_ok {zs : List Int} (h : homesOK zs = true) (i : Nat) : okH (zs.getD i 0) = true := by
  unfold homesOK at h
  rw [List.all_eq_true] at h
  by_cases hi : i < zs.length
  · exact h _ (by rw [List.getD_eq_getElem?_getD, List.getElem?_eq_getElem hi]; exact List.getElem_mem hi)
  · rw [List.getD_eq_getElem?_getD, List.getElem?_eq_none (by omega)]; rfl
theorem homesA_ok {ea : Nat} {zs : List Int} (h : homesOK zs = true) : homesOK (homesA ea zs) = true := by
  have h0 := getD_ok h
  unfold homesOK
  unfold homesA triH
  rw [List.all_eq_true]
  intro x hx
  rw [List.mem_append, List.mem_singleton, List.mem_flatMap] at hx
  rcases hx with rfl | ⟨z, hz, hx⟩
  · exact h0 0
  · obtain ⟨_, rfl⟩ := List.mem_replicate.1 hx
    exact h0 _
theorem zerosA_at (m j : Nat) : (zerosA m).getD j 0 = 0 := by
  match j with
  | 0 => rfl
  | j + 1 =>
    show (List.replicate (3 * m) (0 : Int)).getD j 0 = 0
    rw [List.getD_eq_getElem?_getD, List.getElem?_replicate]
    split <;> rfl
theorem zerosA_len (m : Nat) : (zerosA m).length = 3 * m + 1 := by simp [zerosA]
theorem homesA_len (ea : Nat) (zs : List Int) : (homesA ea zs).length = 3 * (zs.length * ea) + 1 := by unfold homesA; rw [List.length_append, triH_len]; simp; omega
/-- behind made -/
def MdPost (w : World) (n ea : Nat) (zs : List Int) (e : Ending) (w' : World) : Prop := ∃ L : Lp, e = .returned (.tuple #[.pointer (some ⟨L.lb, 0, none⟩), .pointer (some ⟨L.q.p, 0, none⟩)]) ∧ LkS w w' L (newF n ea n) ∧ L.a1 = 0 ∧ L.a2 = 1 ∧ L.hs = homesA ea zs
def PtPost (w0 : World) (n ea : Nat) (zs : List Int) (lb : Nat) (e : Ending) (w' : World) : Prop := ∃ L : Lp, e = .returned (.tuple #[.pointer (some ⟨L.q.p, 0, none⟩), .int .i64 0]) ∧ (L.a1 = 0 ∧ L.a2 = 1 ∧ LkP w0 w' L (newF n ea n)) ∧ L.lb = lb ∧ L.hs = homesA ea zs
theorem fl_port {w0 w w1 : World} {q q' : Pl} {n ea : Nat} {zs : List Int} {L0 : Lp} (h0 : Wrote Nil w0 w) (hq : ∀ k, q.F k → w0.heap.size ≤ k) (n1 : 1 ≤ n) (n2 : n ≤ 64) (he : ea ≤ 8) (ho : homesOK zs = true) (hn : zs.length = n)
    (hR : RawN w1 L0 n ea) (hl : w.heap.size ≤ L0.lb ∧ w.heap.size ≤ L0.p ∧ w.heap.size ≤ L0.b ∧ w.heap.size ≤ L0.tb) (h1 : L0.a1 = 0) (h2 : L0.a2 = 1) (hqq : q'.p = q.p) (hP : PlanAt w1 q' n (homesA ea zs) (zerosA (n * ea))) (hW : Wrote q.F w w1) :
    Calls Tryz.prog 19 #[.pointer (some ⟨q.p, 0, none⟩)] w1 (PtPost w0 n ea zs L0.lb) := by
  have hm : n * ea ≤ 64 * 8 := Nat.mul_le_mul n2 he
  have c := plport_good hP (fun j => by rw [zerosA_at]; decide) n1 n2 (by rw [homesA_len, hn]; omega) (homesA_ok ho)
  rw [hqq] at c
  refine c.mono ?_
  rintro e w' ⟨qq, rfl, hA, hk0, hk3, hW2⟩
  have s0 := h0.size
  exact ⟨{ L0 with q := qq, hs := homesA ea zs }, rfl, ⟨h1, h2, lp_made (f := newF n ea n) hR (by omega) (h0.trans hW fun k hk e => by have := hq k e; unfold Nil; omega) hA hk0 hk3 hW2⟩, rfl, rfl⟩
set_option maxHeartbeats 4000000 in
theorem fl_made {w : World} {b o n cap : Nat} {zs : List Int} (hr : RowAt .i64 w (some ⟨b, o, none⟩) n zs) (hb : b < w.heap.size) (ho : homesOK zs = true) (n1 : 1 ≤ n) (n2 : n ≤ 64) (ea : Nat) (e1 : 1 ≤ ea) (e2 : ea ≤ 8) :
    Calls Tryz.prog 6 #[.slice (some ⟨b, o, none⟩) n cap, .int .i64 (ea : Int)] w (MdPost w n ea zs) := by
  have HH := Lib.hid (And.intro hr (And.intro hb ho))
  have HL := Lib.hid hr.len
  have cP := fun W => plnew_any (n : Int) W
  clear hr hb ho
  go_enter Tryz.func6, Tryz.ntmps6
  go_wp2_with (first
    | (go_at_call 17; (with_reducible refine (cP _).mono ?_); rintro e w1 ⟨q, rfl, hP, hnew, hW1⟩; have H1 := Lib.hid (And.intro hP (And.intro hnew hW1)); clear hP hnew hW1)
    | (go_at_call 18; (with_reducible refine (fn_new H1.out.1 (HH.out.1.after H1.out.2.2) HH.out.2.2 n1 n2 ea e1 e2 (Nat.zero_le _) (fun e => by have := H1.out.2.1 _ e; have := HH.out.2.1; omega)).mono ?_); intro e w2 hq; unfold NewAbPost at hq; obtain ⟨L0, q2, he, hR, hl, ha1, ha2, hqq, hP2, hW2, hC2⟩ := hq; obtain ⟨lb, hlb0⟩ : ∃ lb, lb = L0.lb := ⟨_, rfl⟩; rw [← hlb0] at he; subst he; have cQ := fl_port (w0 := w) (zs := zs) H1.out.2.2 H1.out.2.1 n1 n2 e2 HH.out.2.2 HL.out hR hl ha1 ha2 hqq (by rw [homesA, HL.out]; exact hP2) hW2; rw [← hlb0] at cQ; clear hR hl ha1 ha2 hqq hP2 hW2 hC2 hlb0)
    | (go_at_call 19; (with_reducible refine cQ.mono ?_); clear cQ; intro e w3 hq; unfold PtPost at hq; obtain ⟨L, rfl, ⟨ha1, ha2, hL⟩, hlb, hhs⟩ := hq; subst hlb; have HA := Lib.hid (And.intro ha1 (And.intro ha2 hhs)); have H2 := Lib.hid hL; clear ha1 ha2 hL hhs)
    | (go_at_call 20; ((with_reducible refine (lp_use H2.out).mono ?_); rintro e w4 ⟨rfl, hL, _⟩; have H3 := Lib.hid hL; clear hL)))
  go_ret2
  exact ⟨L, rfl, H3.out, HA.out⟩
theorem ord_new (n ea : Nat) (hn : n ≤ 8) (e1 : 1 ≤ ea) (e2 : ea ≤ 8) : OrdJ (newF n ea n) none [] := by
  have hz : ∀ i, ((newF n ea n).ps.ws).getD i 0 = 0 := zerosA_at (n * ea)
  have hr : ∀ t, (newF n ea n).ro t = .idle := fun t => ro_idle rfl
  have hS : ∀ i, wS (newF n ea n).ps i = 0 := fun i => by cases i <;> first | rfl | exact hz _
  have hN : ∀ i, wN (newF n ea n).ps i = 0 := fun i => by cases i <;> first | rfl | exact hz _
  have hO : ∀ i, wO (newF n ea n).ps i = 0 := fun i => by cases i <;> first | rfl | exact hz _
  refine ⟨hn, ⟨e1, e2⟩, rfl, zerosA_len _, by simp [newF, newS, newSeat], ?_, fun t => ⟨by show (1 : Int) ≤ 1; decide, by show (1 : Int) ≤ 8; decide⟩, fun t _ => by show (0 : Int) ≤ 0 ∧ (0 : Int) ≤ 3; decide, fun t _ q => absurd (show (0 : Int) = 3 from q) (by decide), fun t _ _ _ => rfl, fun t _ => ⟨⟨Int.le_refl 0, by show (0 : Int) ≤ (ea : Int); omega⟩, fun q => absurd (show (0 : Int) = 1 from q) (by decide), fun _ => rfl⟩, fun t => Int.le_refl 0, fun t => Int.le_refl 0⟩
  refine ⟨List.nodup_nil, fun i hi => by simp at hi, fun _ => hz 0, ?_, ?_, ?_, ?_, ?_, ?_, ?_, ?_, ?_, ?_, fun i hi => by simp at hi, fun i _ _ => .inl (hO i), ?_, ?_⟩
  · rintro k ⟨a, ha⟩; simp at ha
  · rintro i j ⟨a, b, ha⟩; simp at ha
  all_goals grind

/-! ### the document's example -/
def exG (L : Lp) : Nat → FL
  | 0 => (newF 2 1 2).lock 0 (-1)
  | i + 1 => (exG L i).step L 0 0 0
def exH (L : Lp) : Nat → FL
  | 0 => (exG L 5).lock 1 3
  | i + 1 => (exH L i).step L 1 1 2
abbrev exK (L : Lp) : FL := (exH L 7).step L 1 1 3
structure ExAll (L : Lp) : Prop where
  l1 : lockE (newF 2 1 2).s 0 (-1) = 0
  l2 : lockE (exG L 5).s 1 3 = 0
  a1 : (exH L 7).did L 1 1 3 = Dd.no
  a2 : (exK L).did L 1 1 3 = ⟨2, false, false, false⟩
  s0 : ((exK L).step L 1 1 3).s.stI 0 = 2
  o1 : ((exK L).step L 1 1 3).outs L 1 = 1
  dG : ∀ i, i < 5 → (exG L i).ps.D.length < 4611686018427387904
  dH : ∀ i, i < 7 → (exH L i).ps.D.length < 4611686018427387904
  d1 : (exH L 7).ps.D.length < 4611686018427387904
  d2 : (exK L).ps.D.length < 4611686018427387904
theorem ex_all (L : Lp) (h1 : L.a1 = 0) (h2 : L.a2 = 1) : ExAll L := by
  obtain ⟨a, b, c, d, x, y, q, hs⟩ := L
  obtain rfl : x = 0 := h1
  obtain rfl : y = 1 := h2
  refine ⟨by decide, by kernel_rfl, by kernel_rfl, by kernel_rfl, by kernel_rfl, by kernel_rfl, fun i hi => ?_, fun i hi => ?_, of_decide_eq_true (by kernel_rfl), of_decide_eq_true (by kernel_rfl)⟩
  · have : i = 0 ∨ i = 1 ∨ i = 2 ∨ i = 3 ∨ i = 4 := by omega
    rcases this with rfl | rfl | rfl | rfl | rfl <;> exact of_decide_eq_true (by kernel_rfl)
  · have : i = 0 ∨ i = 1 ∨ i = 2 ∨ i = 3 ∨ i = 4 ∨ i = 5 ∨ i = 6 := by omega
    rcases this with rfl | rfl | rfl | rfl | rfl | rfl | rfl <;> exact of_decide_eq_true (by kernel_rfl)
theorem row_two (w : World) : RowAt .i64 (w.alloc (.cells #[.int .i64 0, .int .i64 0] 3)) (some ⟨w.heap.size, 0, none⟩) 2 [0, 0] := by
  refine ⟨rfl, fun e => (by cases e), fun b hb j hj => ?_⟩
  have e : j = 0 ∨ j = 1 := by omega
  cases hb
  rcases e with rfl | rfl
  · exact (blk_cell (Go.Deep.blk_alloc_new w (.cells #[.int .i64 0, .int .i64 0] 3)) 0).trans rfl
  · exact (blk_cell (Go.Deep.blk_alloc_new w (.cells #[.int .i64 0, .int .i64 0] 3)) 1).trans rfl
/-- two results of steps are laid -/
theorem two_did (X : World) (d e : Dd) : ∀ V, V = (X.alloc (.cells (didC d) 52)).alloc (.cells (didC e) 52) →
    Wrote Nil X V ∧ V.heap[X.heap.size]? = some (.cells (didC d) 52 (0, 0)) ∧ V.heap[X.heap.size + 1]? = some (.cells (didC e) 52 (0, 0)) := by
  rintro V rfl
  have e1 : (X.alloc (.cells (didC d) 52)).heap.size = X.heap.size + 1 := Go.Deep.nblk_alloc _ _
  exact ⟨((Wrote.refl _ X).alloc _).alloc _, by rw [Go.Deep.blk_alloc_lt _ _ _ (by rw [e1]; omega), Go.Deep.blk_alloc_new], by rw [← e1, Go.Deep.blk_alloc_new]⟩
set_option maxHeartbeats 4000000 in
theorem fl_awake (w : World) : Calls Tryz.prog 5 #[] w (AwakePost w) := by
  obtain ⟨W0, hW0⟩ : ∃ W0, W0 = w.alloc (.cells #[.int .i64 0, .int .i64 0] 3) := ⟨_, rfl⟩
  have cM : Calls Tryz.prog 6 #[.slice (some ⟨w.heap.size, 0, none⟩) 2 2, .int .i64 1] W0 (MdPost W0 2 1 [0, 0]) := fl_made (w := W0) (cap := 2) (by rw [hW0]; exact row_two w) (by rw [hW0, Go.Deep.nblk_alloc]; omega) (zs := [0, 0]) rfl (by decide) (by decide) 1 (Nat.le_refl 1) (by decide)
  have hWz : Wrote Nil w W0 := by rw [hW0]; exact (Wrote.refl _ w).alloc _
  have HW := Lib.hid hWz
  rw [hW0] at cM
  have H00 := Lib.hid hW0
  clear hWz hW0
  go_enter Tryz.func5, Tryz.ntmps5
  go_wp2_with (first
    | (go_at_call 6; (with_reducible refine cM.mono ?_); intro e w1 hq; unfold MdPost at hq; obtain ⟨L, rfl, hL, h1, h2, _⟩ := hq; rw [← H00.out] at hL; have c0 := hL.cell0; have HA := Lib.hid (ex_all L h1 h2); have H1 := Lib.hid hL; clear hL h1 h2)
    | (go_at_call 13; (with_reducible refine (ls_lock H1.out 0 (-1)).mono ?_); intro e w2 hq; unfold LsPost at hq; obtain ⟨rfl, hL, _⟩ := hq; rw [HA.out.l1]; have H2 := Lib.hid (show LkS W0 w2 L (exG L 0) from hL); clear hL))
  clear H1
  go_loopw [21] (fun i wr => ∃ k : Nat, k ≤ 5 ∧ i = .int .i64 k ∧ LkS W0 wr L (exG L k)) (fun i _ => 5 - (intOf i).toNat)
  case atStart => exact ⟨0, Nat.zero_le _, rfl, H2.out⟩
  case round =>
    clear H2
    obtain ⟨k, hk, rfl, hL⟩ := hrel
    by_cases hlt : k < 5
    · have jk : (k : Int) < 5 := by omega
      have HL := Lib.hid hL
      have HK := Lib.hid (HA.out.dG k hlt)
      clear hL
      go_wp2_with (go_at_call 14; (with_reducible refine (ls_step HL.out 0 0 0 HK.out).mono ?_); intro e w3 hq; unfold LsPost at hq; obtain ⟨rfl, hL, _⟩ := hq; dsimp only [Dd.val]; have H3 := Lib.hid (show LkS W0 w3 L (exG L (k + 1)) from hL); clear hL)
      go_roundw
      case rel => exact ⟨k + 1, by omega, by go_num, H3.out⟩
      case measure => simp [intOf]; omega
    · obtain rfl : k = 5 := by omega
      have c0 := hL.cell0
      have HL := Lib.hid hL
      clear hL
      go_wp2_with (go_at_call 13; (with_reducible refine (ls_lock HL.out 1 3).mono ?_); intro e w2 hq; unfold LsPost at hq; obtain ⟨rfl, hL, _⟩ := hq; rw [HA.out.l2]; have H2 := Lib.hid (show LkS W0 w2 L (exH L 0) from hL); clear hL)
      go_loopw [31] (fun i wr => ∃ k : Nat, k ≤ 7 ∧ i = .int .i64 k ∧ LkS W0 wr L (exH L k)) (fun i _ => 7 - (intOf i).toNat)
      case atStart => exact ⟨0, Nat.zero_le _, rfl, H2.out⟩
      case round =>
        clear H2 HL c0
        obtain ⟨k, hk, rfl, hL⟩ := hrel
        by_cases hlt : k < 7
        · have jk : (k : Int) < 7 := by omega
          have HL := Lib.hid hL
          have HK := Lib.hid (HA.out.dH k hlt)
          clear hL
          go_wp2_with (go_at_call 14; (with_reducible refine (ls_step HL.out 1 1 2 HK.out).mono ?_); intro e w3 hq; unfold LsPost at hq; obtain ⟨rfl, hL, _⟩ := hq; dsimp only [Dd.val]; have H3 := Lib.hid (show LkS W0 w3 L (exH L (k + 1)) from hL); clear hL)
          go_roundw
          case rel => exact ⟨k + 1, by omega, by go_num, H3.out⟩
          case measure => simp [intOf]; omega
        · obtain rfl : k = 7 := by omega
          have HL := Lib.hid hL
          clear hL
          go_upto_region 15 with (first
            | (go_at_call 14; (with_reducible refine (ls_step HL.out 1 1 3 HA.out.d1).mono ?_); intro e w3 hq; unfold LsPost at hq; obtain ⟨rfl, hL, _⟩ := hq; rw [HA.out.a1]; dsimp only [Dd.val, Dd.no]; have H3 := Lib.hid hL; clear hL HL)
            | (go_at_call 14; (with_reducible refine (ls_step H3.out 1 1 3 HA.out.d2).mono ?_); intro e w4 hq; unfold LsPost at hq; obtain ⟨rfl, hL, _⟩ := hq; rw [HA.out.a2]; dsimp only [Dd.val]; have H4 := Lib.hid hL; clear hL H3))
          obtain ⟨V, hV⟩ : ∃ V, V = (w4.alloc (.cells #[.int .i64 0, .bool false, .bool false, .bool false] 52)).alloc (.cells #[.int .i64 2, .bool false, .bool false, .bool false] 52) := ⟨_, rfl⟩
          obtain ⟨hWV, b1, b2⟩ := two_did w4 Dd.no ⟨2, false, false, false⟩ V hV
          rw [← hV]
          have hL := H4.out.after hWV
          have c0 := hL.cell0
          have y0 : V.cell? ⟨w4.heap.size, 0, none⟩ = some (.int .i64 0) := (blk_cell b1 0).trans rfl
          have y1 : V.cell? ⟨w4.heap.size, 1, none⟩ = some (.bool false) := (blk_cell b1 1).trans rfl
          have y2 : V.cell? ⟨w4.heap.size, 2, none⟩ = some (.bool false) := (blk_cell b1 2).trans rfl
          have y3 : V.cell? ⟨w4.heap.size, 3, none⟩ = some (.bool false) := (blk_cell b1 3).trans rfl
          have z0 : V.cell? ⟨w4.heap.size + 1, 0, none⟩ = some (.int .i64 2) := (blk_cell b2 0).trans rfl
          have z1 : V.cell? ⟨w4.heap.size + 1, 1, none⟩ = some (.bool false) := (blk_cell b2 1).trans rfl
          have z2 : V.cell? ⟨w4.heap.size + 1, 2, none⟩ = some (.bool false) := (blk_cell b2 2).trans rfl
          have z3 : V.cell? ⟨w4.heap.size + 1, 3, none⟩ = some (.bool false) := (blk_cell b2 3).trans rfl
          have cS := ls_state hL 0
          rw [HA.out.s0] at cS
          have cO := fl_outs hL.lk 1
          rw [HA.out.o1] at cO
          have HV := Lib.hid hL
          clear hV hWV b1 b2 hL H4
          go_wp2_with (first
            | (go_at_call 15; (with_reducible refine cS.mono ?_); rintro e w' ⟨rfl, rfl⟩)
            | (go_at_call 16; (with_reducible refine cO.mono ?_); rintro e w5 ⟨rfl, hW5⟩; have H5 := Lib.hid hW5; clear hW5))
          go_ret
          exact ⟨rfl, HW.out.nil (HV.out.wr.nil H5.out)⟩
end Go.Proofs.YtdhpmcafekpfhaaGreat
