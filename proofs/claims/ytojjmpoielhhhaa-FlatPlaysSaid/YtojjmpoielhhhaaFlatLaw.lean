/- The document's example of a ticket lock. -/
import Derived.Test.YtojjmpoielhhhaaLockFine
import Derived.Test.YtojjmpoielhhhaaFlatOrd
import Derived.Laws.StructEq
namespace Go.Proofs.Ytojjmpoielhhhaa
open Go.RowKit Go.BigFrame
set_option linter.unusedVariables false
set_option maxRecDepth 100000

/-! ### the document's example -/
def newF (n t : Nat) (v : Int) : FL := ⟨newSeat n false true, fun _ => 0, fun _ => false, newS t [v, v]⟩
theorem ex_all (L : Lp) (h1 : L.a1 = 0) (h2 : L.a2 = 1) : lockE (newF 1 1 7).s 0 (-1) = 0 ∧ ((newF 1 1 7).lock 0 (-1)).did L 0 0 = ⟨0, true, false, false⟩ ∧ (((newF 1 1 7).lock 0 (-1)).step L 0 0).did L 0 0 = ⟨1, false, false, false⟩ ∧ ((((newF 1 1 7).lock 0 (-1)).step L 0 0).step L 0 0).s.stI 0 = 2 ∧ ((newF 1 1 7).lock 0 (-1)).ps.D.length < 4611686018427387904 ∧ (((newF 1 1 7).lock 0 (-1)).step L 0 0).ps.D.length < 4611686018427387904 := by
  obtain ⟨a, b, c, d, x, y, q, hs⟩ := L
  obtain rfl : x = 0 := h1
  obtain rfl : y = 1 := h2
  exact ⟨by decide, rfl, rfl, rfl, (by decide : (0 : Nat) < 4611686018427387904), (by decide : (1 : Nat) < 4611686018427387904)⟩
/-- behind New and Port: a lock and its port -/
def MadePost (w0 : World) (n : Nat) (v : Int) (L : Lp) (w' : World) : Prop := L.a1 = 0 ∧ L.a2 = 1 ∧ LkP w0 w' L (newF n n v)
theorem fl_port {w0 w w1 : World} {q q' : Pl} {n : Nat} {x v : Int} {L0 : Lp} (h0 : Wrote Nil w0 w) (hq : ∀ k, q.F k → w0.heap.size ≤ k) (n1 : 1 ≤ n) (n2 : n ≤ 64) (hx : okH x = true) (hv : 0 ≤ v ∧ v < 4294967296)
    (hR : FlRaw w1 L0 (.pointer none) (newSeat n false true) (fun _ => 0) (fun _ => false)) (hl : w.heap.size ≤ L0.lb ∧ w.heap.size ≤ L0.p ∧ w.heap.size ≤ L0.b ∧ w.heap.size ≤ L0.tb) (h1 : L0.a1 = 0) (h2 : L0.a2 = 1) (hqq : q'.p = q.p) (hP : PlanAt w1 q' n [x, x] [v, v]) (hW : Wrote q.F w w1) :
    Calls Try.prog 10 #[.pointer (some ⟨q.p, 0, none⟩)] w1 fun e w' => ∃ L : Lp, e = .returned (.tuple #[.pointer (some ⟨L.q.p, 0, none⟩), .int .i64 0]) ∧ MadePost w0 n v L w' ∧ L.lb = L0.lb ∧ L.hs = [x, x] := by
  have ho : homesOK [x, x] = true := by simp [homesOK, hx]
  have c := plport_good hP (fun j => by
    match j with
    | 0 => exact hv
    | 1 => exact hv
    | _ + 2 => simp) n1 n2 (by simp) ho
  rw [hqq] at c
  refine c.mono ?_
  rintro e w' ⟨qq, rfl, hA, hk0, hk3, hW2⟩
  have s0 := h0.size
  refine ⟨{ L0 with q := qq, hs := [x, x] }, rfl, ⟨h1, h2, ?_⟩, rfl, rfl⟩
  exact lp_made (f := newF n n v) hR (by omega) (h0.trans hW fun k hk e => by have := hq k e; unfold Nil; omega) hA hk0 hk3 hW2

theorem row_zero10 (w : World) : RowAt .i64 (w.alloc (.cells #[.int .i64 0] 3)) (some ⟨w.heap.size, 0, none⟩) 1 [0] := by
  refine ⟨rfl, fun e => (by cases e), fun b hb j hj => ?_⟩
  have e : j = 0 := by omega
  subst e
  cases hb
  exact (blk_cell (Go.Deep.blk_alloc_new w (.cells #[.int .i64 0] 3)) 0).trans rfl
set_option maxHeartbeats 4000000 in
theorem fl_awake (w : World) : Calls Try.prog 7 #[] w (AwakePost w) := by
  go_enter Try.func7, Try.ntmps7
  go_wp2_with (first
    | (go_at_call 8; with_reducible refine (plnew_any 1 w).mono ?_; rintro e w1 ⟨q, rfl, hP, hnew, hW1⟩; have H1 := Lib.hid (And.intro hP (And.intro hnew hW1)); clear hP hnew hW1)
    | (go_at_call 9; ((with_reducible refine (fn_new (H1.out.1.after ((Wrote.refl Nil w1).alloc (.cells #[.int .i64 0] 3))) (zs := [0]) (row_zero10 w1) rfl (Nat.le_refl 1) (by decide) (Nat.zero_le _) (fun e => by have := H1.out.1.lt e; omega) (by decide)).mono ?_); intro e w2 hq; unfold NewFlatPost at hq; obtain ⟨L0, q2, he, hR, hl, ha1, ha2, hqq, hP2, hW2, hC2⟩ := hq; obtain ⟨lb, hlb0⟩ : ∃ lb, lb = L0.lb := ⟨_, rfl⟩; rw [← hlb0] at he; subst he; have HB := Lib.hid hlb0; clear hlb0; have cP := fl_port (w0 := w) (H1.out.2.2.nil ((Wrote.refl Nil w1).alloc (.cells #[.int .i64 0] 3))) H1.out.2.1 (Nat.le_refl 1) (by decide) rfl (by decide) hR hl ha1 ha2 hqq hP2 hW2; clear hR hl ha1 ha2 hqq hP2 hW2 hC2))
    | (go_at_call 10; (with_reducible refine cP.mono ?_); clear cP; rintro e w3 ⟨L, rfl, ⟨ha1, ha2, hL⟩, hlb, _⟩; rw [← HB.out] at hlb; clear HB; subst hlb; have HA := Lib.hid (And.intro ha1 ha2); have H2 := Lib.hid hL; clear ha1 ha2 hL)
    | (go_at_call 19; ((with_reducible refine (lp_use H2.out).mono ?_); rintro e w4 ⟨rfl, hL, _⟩; clear H2; have c0 := hL.cell0; have H3 := Lib.hid hL; clear hL))
    | (go_at_call 20; (with_reducible refine (ls_lock H3.out 0 (-1)).mono ?_); intro e w5 hq; unfold LsPost at hq; obtain ⟨rfl, hL, _⟩ := hq; rw [(ex_all L HA.out.1 HA.out.2).1]; clear H3; have c0' := hL.cell0; have H4 := Lib.hid hL; clear hL)
    | (go_at_call 21; (with_reducible refine (ls_step H4.out 0 0 0 (ex_all L HA.out.1 HA.out.2).2.2.2.2.1).mono ?_); intro e w6 hq; unfold LsPost at hq; obtain ⟨rfl, hL, _⟩ := hq; rw [(ex_all L HA.out.1 HA.out.2).2.1]; dsimp only [Dd.val]; clear H4; have c1' := hL.cell0; have H5 := Lib.hid hL; clear hL)
    | (go_at_call 21; (with_reducible refine (ls_step H5.out 0 0 0 (ex_all L HA.out.1 HA.out.2).2.2.2.2.2).mono ?_); intro e w7 hq; unfold LsPost at hq; obtain ⟨rfl, hL, _⟩ := hq; rw [(ex_all L HA.out.1 HA.out.2).2.2.1]; dsimp only [Dd.val]; clear H5; have c2' := hL.cell0; have H6 := Lib.hid hL; clear hL)
    | (go_at_call 22; (with_reducible refine (ls_state H6.out 0).mono ?_); rintro e w8 ⟨rfl, rfl⟩; rw [(ex_all L HA.out.1 HA.out.2).2.2.2.1]))
  go_ret
  exact ⟨rfl, H6.out.wr⟩
theorem ord_new (n t : Nat) (v : Int) (hn : n ≤ 8) (ht : t = n) (hv : 0 ≤ v ∧ v < 4294967296) : OrdJ (newF n t v) none [] v v := by
  subst ht
  refine ⟨hn, rfl, by simp [newF, newS, newSeat], hv, by simp, by simp, by simp, ?_, fun k hk => by simp [newF], fun k hk => by simp at hk, by simp, fun k hk _ => .inl rfl⟩
  simp only [Option.toList_none, List.nil_append, List.length_nil]
  omega
end Go.Proofs.Ytojjmpoielhhhaa
