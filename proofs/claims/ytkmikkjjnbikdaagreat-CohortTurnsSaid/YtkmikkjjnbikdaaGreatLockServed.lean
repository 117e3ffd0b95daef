/- If all call a lock, and step by turns, each call is granted, and comes to its end. -/
import Derived.Test.YtkmikkjjnbikdaaGreatCohortLaw
import Derived.Test.YtkmikkjjnbikdaaGreatCohortServe
import Derived.Deep.Cut
import Derived.Deep.CutBlock
import Derived.Deep.CutRange
import Derived.BigQuiet
import Derived.BigFrame
import Derived.IntWalk
namespace Go.Proofs.YtkmikkjjnbikdaaGreat
open Go.RowKit Go.BigFrame
set_option linter.unusedVariables false
set_option maxRecDepth 100000

/-! ### the law's two rows of eight -/
def arrS (g : Nat → Nat) : Array Value := ((List.range 8).map fun k => natV (g k)).toArray
theorem arrS_at (g : Nat → Nat) {k : Nat} (hk : k < 8) : (arrS g)[k]? = some (natV (g k)) := by
  unfold arrS
  rw [List.getElem?_toArray, List.getElem?_map, List.getElem?_range hk]
  rfl
theorem arrS_set (g : Nat → Nat) (k v : Nat) : (arrS g).setIfInBounds k (natV v) = arrS (upd g k v) := by
  unfold arrS
  rw [List.setIfInBounds_toArray]
  congr 1
  apply List.ext_getElem?
  intro m
  rw [List.getElem?_set, List.getElem?_map, List.getElem?_map]
  by_cases hm : m < 8
  · rw [List.getElem?_range hm]
    by_cases e : k = m
    · subst e
      rw [if_pos rfl, if_pos (by simpa using hm)]
      show _ = some (natV (upd g k v k))
      rw [upd_same]
    · rw [if_neg e]
      show some (natV (g m)) = some (natV (upd g k v m))
      rw [upd_other _ _ (fun x => e x.symm)]
  · have e0 : (List.range 8)[m]? = none := List.getElem?_eq_none (by simp; omega)
    rw [e0]
    by_cases e : k = m
    · subst e; rw [if_pos rfl, if_neg (by simpa using hm)]; rfl
    · rw [if_neg e]; rfl
def ArrAt (w : World) (B : Nat) (g : Nat → Nat) : Prop := w.heap[B]? = some (.cells (arrS g) 86 (0, 0))
theorem ArrAt.cell {w : World} {B : Nat} {g : Nat → Nat} (h : ArrAt w B g) {k : Nat} (hk : k < 8) : w.cell? ⟨B, k, none⟩ = some (.int .i64 (g k : Int)) := by
  rw [blk_cell h, arrS_at g hk]; rfl
theorem ArrAt.frz {w : World} {B : Nat} {g : Nat → Nat} (h : ArrAt w B g) (k : Nat) : w.frozen? ⟨B, k, none⟩ = false := blk_frozen h k
theorem arrS_zero : arrS (fun _ => 0) = #[.int .i64 0, .int .i64 0, .int .i64 0, .int .i64 0, .int .i64 0, .int .i64 0, .int .i64 0, .int .i64 0] := rfl

structure Sv (w0 w : World) (L : Lp) (f : FL) (A1 A2 : Nat) (left grants : Nat → Nat) : Prop where
  ls : LkS w0 w L f
  a1 : ArrAt w A1 left
  a2 : ArrAt w A2 grants
  far : L.q.k3 ≤ A1 ∧ L.q.k3 ≤ A2 ∧ A1 ≠ A2
namespace Sv
variable {w0 w w' : World} {L : Lp} {f f' : FL} {A1 A2 : Nat} {left grants : Nat → Nat}
theorem after (h : Sv w0 w L f A1 A2 left grants) (k : Wrote Nil w w') : Sv w0 w' L f A1 A2 left grants :=
  ⟨h.ls.after k, (k.block _ (blk_lt h.a1) id).trans h.a1, (k.block _ (blk_lt h.a2) id).trans h.a2, h.far⟩
theorem call (h : Sv w0 w L f A1 A2 left grants) (hl : LkS w0 w' L f') (k : Wrote (Low L) w w') : Sv w0 w' L f' A1 A2 left grants :=
  ⟨hl, (k.block _ (blk_lt h.a1) fun e => by have := h.far.1; unfold Low at e; omega).trans h.a1, (k.block _ (blk_lt h.a2) fun e => by have := h.far.2.1; unfold Low at e; omega).trans h.a2, h.far⟩
theorem set1 (h : Sv w0 w L f A1 A2 left grants) (k v : Nat) : Sv w0 (w.setCell ⟨A1, k, none⟩ (.int .i64 (v : Int))) L f A1 A2 (upd left k v) grants := by
  have hW : Wrote (One A1) w (w.setCell ⟨A1, k, none⟩ (.int .i64 (v : Int))) := (Wrote.refl _ w).setCell _ _ fun _ => rfl
  refine ⟨h.ls.apart hW fun b e => by cases e; exact h.far.1, ?_, (hW.block _ (blk_lt h.a2) fun e => h.far.2.2 e.symm).trans h.a2, h.far⟩
  unfold ArrAt
  rw [blk_setCell h.a1, ← arrS_set]
  rfl
theorem set2 (h : Sv w0 w L f A1 A2 left grants) (k v : Nat) : Sv w0 (w.setCell ⟨A2, k, none⟩ (.int .i64 (v : Int))) L f A1 A2 left (upd grants k v) := by
  have hW : Wrote (One A2) w (w.setCell ⟨A2, k, none⟩ (.int .i64 (v : Int))) := (Wrote.refl _ w).setCell _ _ fun _ => rfl
  refine ⟨h.ls.apart hW fun b e => by cases e; exact h.far.2.1, (hW.block _ (blk_lt h.a1) fun e => h.far.2.2 e).trans h.a1, ?_, h.far⟩
  unfold ArrAt
  rw [blk_setCell h.a2, ← arrS_set]
  rfl
end Sv

/-- between two rounds -/
def RoundSt (w0 wr : World) (L : Lp) (n c A1 A2 r : Nat) : Prop := ∃ (f : FL) (left grants : Nat → Nat), Sv w0 wr L f A1 A2 left grants ∧ f.s.n = n ∧ SvI f c left grants ∧ f.ps.D.length ≤ 8 * r ∧ todo f left + r ≤ 40 * (n * c)
/-- amid a round, behind j's turns -/
def TurnSt (w0 wr : World) (L : Lp) (n c A1 A2 r j : Nat) (b : Bool) : Prop := ∃ (f : FL) (left grants : Nat → Nat), Sv w0 wr L f A1 A2 left grants ∧ f.s.n = n ∧ SvI f c left grants ∧ f.ps.D.length ≤ 8 * r + j ∧ (b = true ↔ ∃ k, k < j ∧ Busy f left k) ∧
  (todo f left + 1 + r ≤ 40 * (n * c) ∨ (todo f left + r ≤ 40 * (n * c) ∧ ∀ k, k < j → Stuck f left k))

theorem TurnSt.next {w0 wr : World} {L : Lp} {n c A1 A2 r j : Nat} {b b' : Bool} {f f' : FL} {left left' grants' : Nat → Nat} (hS : Sv w0 wr L f' A1 A2 left' grants') (hn : f'.s.n = n) (hV : SvI f' c left' grants') (hD : f'.ps.D.length ≤ 8 * r + (j + 1))
    (hB : b = true ↔ ∃ k, k < j ∧ Busy f left k) (hsame : ∀ k, k ≠ j → (Busy f' left' k ↔ Busy f left k)) (hT : todo f' left' + 1 + r ≤ 40 * (n * c) ∨ (todo f' left' + r ≤ 40 * (n * c) ∧ ∀ k, k < j + 1 → Stuck f' left' k)) (hb : b' = true ↔ (b = true ∨ Busy f' left' j)) :
    TurnSt w0 wr L n c A1 A2 r (j + 1) b' := by
  refine ⟨f', left', grants', hS, hn, hV, hD, ?_, hT⟩
  rw [hb, hB]
  constructor
  · rintro (⟨k, hk, h⟩ | h)
    · exact ⟨k, by omega, (hsame k (by omega)).2 h⟩
    · exact ⟨j, Nat.lt_succ_self j, h⟩
  · rintro ⟨k, hk, h⟩
    by_cases e : k = j
    · subst e; exact .inr h
    · exact .inl ⟨k, by omega, (hsame k e).1 h⟩

/-- all were served: nobody's time is left over -/
def ServedPost (w0 : World) (L : Lp) (e : Ending) (w' : World) : Prop := e = .returned (.bool true) ∧ ∃ f : FL, LkS w0 w' L f ∧ 8 ≤ f.ps.ws.length ∧ ∀ c, c < 8 → f.ps.ws.getD c 0 = 0

set_option maxHeartbeats 8000000 in
theorem served_any {w0 w : World} {L : Lp} {f : FL} (h : LkS w0 w L f) (hO : OrdT f) (h1 : L.a1 = 0) (hD : f.ps.D.length = 0) (hst : ∀ k, f.s.st k = 0) (n1 : 1 ≤ f.s.n) (c : Nat) (c20 : c ≤ 20) :
    Calls Tryz.prog 28 #[.iface 29 (.pointer (some ⟨L.lb, 0, none⟩)), .pointer (some ⟨L.q.p, 0, none⟩), .int .i64 (c : Int)] w (ServedPost w0 L) := by
  have m0 := via_use ⟨L.lb, 0, none⟩
  have n8 := hO.n8
  obtain ⟨n, hn⟩ : ∃ n, n = f.s.n := ⟨_, rfl⟩
  rw [← hn] at n1 n8
  have HA := Lib.hid h1
  have HI := Lib.hid (And.intro hO (And.intro hD (And.intro hst hn)))
  clear h1 hO hD hst hn
  go_enter Tryz.func28, Tryz.ntmps28
  go_wp2_with (first
    | (go_at_call 31; (with_reducible refine (ls_use h).mono ?_); rintro e w1 ⟨rfl, hL, _⟩; have hL2 := (hL.after ((Wrote.refl _ w1).alloc (.cells #[.int .i64 0, .int .i64 0, .int .i64 0, .int .i64 0, .int .i64 0, .int .i64 0, .int .i64 0, .int .i64 0] 86))).after ((Wrote.refl _ _).alloc (.cells #[.int .i64 0, .int .i64 0, .int .i64 0, .int .i64 0, .int .i64 0, .int .i64 0, .int .i64 0, .int .i64 0] 86)); have m1 := via_len L.lb ⟨L.p, 0, none⟩ _ hL2.cell0; have cL := ls_len hL2; rw [← HI.out.2.2.2] at cL; have HL := Lib.hid (And.intro hL2 hL.lk.lk.top); clear hL hL2)
    | (go_at_call 27; (with_reducible refine cL.mono ?_); rintro e w3 ⟨rfl, rfl⟩))
  obtain ⟨Y, hY⟩ : ∃ Y, Y = (w1.alloc (.cells #[.int .i64 0, .int .i64 0, .int .i64 0, .int .i64 0, .int .i64 0, .int .i64 0, .int .i64 0, .int .i64 0] 86)).alloc (.cells #[.int .i64 0, .int .i64 0, .int .i64 0, .int .i64 0, .int .i64 0, .int .i64 0, .int .i64 0, .int .i64 0] 86) := ⟨_, rfl⟩
  obtain ⟨A, hA⟩ : ∃ A, A = w1.heap.size := ⟨_, rfl⟩
  have hS : Sv w0 Y L f A (A + 1) (fun k => if k < 0 then c else 0) (fun _ => 0) := by
    have e1 : (w1.alloc (.cells #[.int .i64 0, .int .i64 0, .int .i64 0, .int .i64 0, .int .i64 0, .int .i64 0, .int .i64 0, .int .i64 0] 86)).heap.size = w1.heap.size + 1 := Go.Deep.nblk_alloc _ _
    have hk := HL.out.2
    rw [hY, hA]
    refine ⟨HL.out.1, ?_, ?_, by omega, by omega, by omega⟩
    · unfold ArrAt
      rw [Go.Deep.blk_alloc_lt _ _ _ (by rw [e1]; omega), Go.Deep.blk_alloc_new]
      rfl
    · unfold ArrAt
      rw [← e1, Go.Deep.blk_alloc_new]
      rfl
  rw [← hY, ← hA]
  clear hY hA HL m0 m1 cL h
  go_loopw [27] (fun i wr => ∃ j : Nat, j ≤ n ∧ i = .int .i64 j ∧ Sv w0 wr L f A (A + 1) (fun k => if k < j then c else 0) (fun _ => 0)) (fun i _ => n - (intOf i).toNat)
  case atStart => exact ⟨0, Nat.zero_le _, rfl, hS⟩
  case round =>
    clear hS
    obtain ⟨j, hj, rfl, hS⟩ := hrel
    by_cases hjn : j < n
    · have jn : (j : Int) < n := by omega
      have j8 : (j : Int) < 8 := by omega
      have c0 := hS.a1.cell (show j < 8 by omega)
      have f0 := hS.a1.frz j
      have HS := Lib.hid (hS.set1 j c)
      clear hS
      go_wp2
      go_roundw
      case rel =>
        refine ⟨j + 1, by omega, by go_num, ?_⟩
        have e : upd (fun k => if k < j then c else 0) j c = fun k => if k < j + 1 then c else 0 := by
          funext k
          by_cases q : k = j
          · subst q; rw [upd_same, if_pos (Nat.lt_succ_self _)]
          · rw [upd_other _ _ q]
            by_cases q2 : k < j
            · rw [if_pos q2, if_pos (by omega)]
            · rw [if_neg q2, if_neg (by omega)]
        rw [← e]
        exact HS.out
      case measure => simp [intOf]; omega
    · have ej : n = j := by omega
      subst ej
      have hR : RoundSt w0 wr L n c A (A + 1) 0 := by
        obtain ⟨hO, hD, hst, hn⟩ := HI.out
        refine ⟨f, _, _, hS, hn.symm, SvI.start hO hst (fun k hk => ?_), by rw [hD]; exact Nat.le_refl _, ?_⟩
        · rw [hst k, if_pos (by omega), if_neg (by decide)]; omega
        · have e : todo f (fun k => if k < n then c else 0) = 40 * c * f.s.n := todo_start hst hn
          rw [e, ← hn, Nat.mul_assoc, Nat.mul_comm c n]
          exact Nat.le_refl _
      have HR := Lib.hid hR
      obtain ⟨M, hM⟩ : ∃ M : Nat, M = 100 * (n + 1) * (c + 1) := ⟨_, rfl⟩
      have hMi : (100 * ((n : Int) + 1)) * ((c : Int) + 1) = (M : Int) := by rw [hM]; push_cast; rfl
      have hnc : 40 * (n * c) < M ∧ M ≤ 18900 := by
        have q1 : n * c ≤ (n + 1) * (c + 1) := Nat.mul_le_mul (by omega) (by omega)
        have q2 : (n + 1) * (c + 1) ≤ 9 * 21 := Nat.mul_le_mul (by omega) (by omega)
        have q3 : 0 < (n + 1) * (c + 1) := Nat.mul_pos (by omega) (by omega)
        rw [hM, Nat.mul_assoc]
        omega
      have HM := Lib.hid hnc
      clear hS hR hM
      have hM2 : (M : Int) ≤ 18900 := by omega
      have hMw : IntKind.i64.wrap (100 * ((n : Int) + 1) * ((c : Int) + 1)) = (M : Int) := by
        rw [hMi]
        rw [IntKind.wrap_i64]; omega
      clear hMi hnc
      go_wp2
      clear hMw
      go_loopw [40] (fun i wr => ∃ r : Nat, r ≤ M ∧ i = .int .i64 r ∧ RoundSt w0 wr L n c A (A + 1) r) (fun i _ => M - (intOf i).toNat)
      case atStart => exact ⟨0, Nat.zero_le _, rfl, HR.out⟩
      case round =>
        clear HR HI
        obtain ⟨r, hr, rfl, hR⟩ := hrel
        by_cases hrM : r < M
        · have HR := Lib.hid hR
          clear hR
          have rM : (r : Int) < M := by omega
          go_wp2
          go_loopw [11, 43] (fun v11 i wr => ∃ (j : Nat) (b : Bool), j ≤ n ∧ i = .int .i64 j ∧ v11 = .bool b ∧ TurnSt w0 wr L n c A (A + 1) r j b) (fun _ i _ => n - (intOf i).toNat)
          case atStart =>
            obtain ⟨f, left, grants, q1, q2, q3, q4, q5⟩ := HR.out
            exact ⟨0, false, Nat.zero_le _, rfl, rfl, f, left, grants, q1, q2, q3, q4, ⟨fun e => (by cases e), fun ⟨k, hk, _⟩ => (by omega)⟩, (.inr ⟨q5, fun k hk => (by omega)⟩)⟩
          case round =>
            clear HR
            obtain ⟨j, b, hj, rfl, rfl, hT⟩ := hrel
            by_cases hjn : j < n
            · skip
              unfold TurnSt at hT
              obtain ⟨f, left, grants, hS, hfn, hV, hD, hB, hT⟩ := hT
              have jn : (j : Int) < n := by omega
              have j8 : (j : Int) < 8 := by omega
              have j0 : j < 8 := by omega
              have HRJ := Lib.hid (show 8 * r + j < 4611686018427387904 by have := HM.out; omega)
              have jf : j < f.s.n := by omega
              have eS : ∀ g : FL, g.s.n = n → g.s.stI (j : Int) = g.s.st j := fun g hg => by unfold SS.stI; rw [if_pos (by omega), Int.toNat_natCast]
              have v0 := via_state L.lb ⟨L.p, 0, none⟩ wr hS.ls.cell0
              have vS := via_step ⟨L.lb, 0, none⟩
              have cY := ls_state hS.ls (j : Int)
              rw [eS f hfn] at cY
              have cA := hS.a1.cell j0
              by_cases hlk : f.s.st j = 0 ∧ 0 < left j
              · obtain ⟨e1, ⟨bq, e2⟩, e3, e4, e5, e6⟩ := hV.calls HA.out jf hlk.1 hlk.2
                rw [hlk.1] at cY
                have hli0 : (0 : Int) < (left j : Int) := by omega
                obtain ⟨lj, hlj⟩ : ∃ lj, lj = left j - 1 := ⟨_, rfl⟩
                have hsub : (left j : Int) - 1 = (lj : Int) := by omega
                have hlj20 : lj ≤ 20 := by have := hV.cnt j jf; omega
                have hw64 : wrap64 (lj : Int) = (lj : Int) := by rw [← IntWalk.i64_left, IntWalk.i64_in]; omega
                rw [← hlj] at e3 e4
                obtain ⟨f', hf'⟩ : ∃ f', f' = (f.lock j (-1)).step L j j := ⟨_, rfl⟩
                obtain ⟨left', hleft⟩ : ∃ left', left' = upd left j lj := ⟨_, rfl⟩
                have HN : Hid (∀ wX b', Sv w0 wX L f' A (A + 1) left' grants → (b' = true ↔ (b = true ∨ Busy f' left' j)) → TurnSt w0 wX L n c A (A + 1) r (j + 1) b') := Lib.hid (fun wX b' hX hb => by
                  rw [← hf', ← hleft] at e3 e4
                  rw [← hf'] at e5 e6
                  have q : todo f left + r ≤ 40 * (n * c) := by
                    rcases hT with h | h
                    · exact Nat.le_trans (Nat.add_le_add_right (Nat.le_succ _) r) h
                    · exact h.1
                  replace q := Nat.le_trans (Nat.add_le_add_right e4 r) q
                  have qD : f'.ps.D.length ≤ 8 * r + (j + 1) := Nat.le_trans e6 (Nat.succ_le_succ hD)
                  refine TurnSt.next hX (by rw [e5]; exact hfn) e3 qD hB (fun k hk => ?_) (.inl q) hb
                  unfold Busy
                  rw [hleft, upd_other _ _ hk, e5]
                  show _ ∨ upd f.s.st j 1 k ≠ 0 ↔ _
                  rw [upd_other _ _ hk])
                have HF := Lib.hid (And.intro hf' hleft)
                have HE2 := Lib.hid e2
                have HST := Lib.hid (show f'.s.st j = 1 by rw [hf', e5]; exact upd_same _ _ _)
                have HN2 := Lib.hid (show f'.s.n = n by rw [hf', e5]; exact hfn)
                have HDD := Lib.hid (show (f.lock j (-1)).ps.D.length ≤ 8 * r + j from hD)
                have cK := ls_lock hS.ls (j : Int) (-1)
                rw [e1] at cK
                have vL := via_lock L.lb ⟨L.p, 0, none⟩ wr hS.ls.cell0
                have HS := Lib.hid hS
                clear hS hV hD hB hT hlk e1 e2 e3 e4 e5 e6 hf' hleft hfn hlj
                cases b
                · by_cases hl : 0 < left' j
                  · have hli : (0 : Int) < (left' j : Int) := by omega
                    go_wp2_with (first
                      | (go_at_call 21; (with_reducible refine cY.mono ?_); rintro e w1 ⟨rfl, rfl⟩; clear cY)
                      | (go_at_call 18; (with_reducible refine cK.mono ?_); intro e w2 hq; unfold LsPost at hq; obtain ⟨rfl, hL2, hW2⟩ := hq; have hS2 := HS.out.call hL2 hW2; have d0 := hS2.a1.cell j0; have z0 := hS2.a1.frz j; have H2 := Lib.hid (hS2.set1 j lj); clear hS2 hL2 hW2)
                      | (go_at_call 20; (with_reducible refine (ls_step H2.out.ls j j 0 (Nat.lt_of_le_of_lt HDD.out HRJ.out)).mono ?_); intro e w3 hq; unfold LsPost at hq; obtain ⟨rfl, hL3, hW3⟩ := hq; rw [HE2.out]; dsimp only [Dd.val]; have hS3 := (H2.out.call hL3 hW3).after ((Wrote.refl _ w3).alloc (.cells #[.int .i64 0, .bool bq, .bool false, .bool false] 71)); rw [← HF.out.1, ← HF.out.2] at hS3; have cB := hS3.a1.cell j0; have vZ := via_state L.lb ⟨L.p, 0, none⟩ _ hS3.ls.cell0; have cZ := ls_state hS3.ls (j : Int); rw [eS f' HN2.out] at cZ; clear cZ; have H3 := Lib.hid hS3; clear hS3 hL3 hW3)
                      | (go_at_call 21; (with_reducible refine cZ.mono ?_); rintro e w5 ⟨rfl, rfl⟩))
                    go_roundw
                    case rel => exact ⟨j + 1, true, by omega, by go_num, rfl, HN.out _ true H3.out ⟨fun _ => .inr (.inl hl), fun _ => rfl⟩⟩
                    case measure => simp [intOf]; omega
                  · have hl0 : left' j = 0 := by omega
                    have HL0 := Lib.hid hl0
                    have hli : ¬ (0 : Int) < (left' j : Int) := by omega
                    clear hl hl0
                    go_wp2_with (first
                      | (go_at_call 21; (with_reducible refine cY.mono ?_); rintro e w1 ⟨rfl, rfl⟩; clear cY)
                      | (go_at_call 18; (with_reducible refine cK.mono ?_); intro e w2 hq; unfold LsPost at hq; obtain ⟨rfl, hL2, hW2⟩ := hq; have hS2 := HS.out.call hL2 hW2; have d0 := hS2.a1.cell j0; have z0 := hS2.a1.frz j; have H2 := Lib.hid (hS2.set1 j lj); clear hS2 hL2 hW2)
                      | (go_at_call 20; (with_reducible refine (ls_step H2.out.ls j j 0 (Nat.lt_of_le_of_lt HDD.out HRJ.out)).mono ?_); intro e w3 hq; unfold LsPost at hq; obtain ⟨rfl, hL3, hW3⟩ := hq; rw [HE2.out]; dsimp only [Dd.val]; have hS3 := (H2.out.call hL3 hW3).after ((Wrote.refl _ w3).alloc (.cells #[.int .i64 0, .bool bq, .bool false, .bool false] 71)); rw [← HF.out.1, ← HF.out.2] at hS3; have cB := hS3.a1.cell j0; have vZ := via_state L.lb ⟨L.p, 0, none⟩ _ hS3.ls.cell0; have cZ := ls_state hS3.ls (j : Int); rw [eS f' HN2.out] at cZ; rw [HST.out] at cZ; have H3 := Lib.hid hS3; clear hS3 hL3 hW3)
                      | (go_at_call 21; (with_reducible refine cZ.mono ?_); rintro e w5 ⟨rfl, rfl⟩))
                    go_roundw
                    case rel => exact ⟨j + 1, true, by omega, by go_num, rfl, HN.out _ true H3.out ⟨fun _ => .inr (.inr (by rw [HST.out]; decide)), fun _ => rfl⟩⟩
                    case measure => simp [intOf]; omega
                · go_wp2_with (first
                    | (go_at_call 21; (with_reducible refine cY.mono ?_); rintro e w1 ⟨rfl, rfl⟩; clear cY)
                    | (go_at_call 18; (with_reducible refine cK.mono ?_); intro e w2 hq; unfold LsPost at hq; obtain ⟨rfl, hL2, hW2⟩ := hq; have hS2 := HS.out.call hL2 hW2; have d0 := hS2.a1.cell j0; have z0 := hS2.a1.frz j; have H2 := Lib.hid (hS2.set1 j lj); clear hS2 hL2 hW2)
                    | (go_at_call 20; (with_reducible refine (ls_step H2.out.ls j j 0 (Nat.lt_of_le_of_lt HDD.out HRJ.out)).mono ?_); intro e w3 hq; unfold LsPost at hq; obtain ⟨rfl, hL3, hW3⟩ := hq; rw [HE2.out]; dsimp only [Dd.val]; have hS3 := (H2.out.call hL3 hW3).after ((Wrote.refl _ w3).alloc (.cells #[.int .i64 0, .bool bq, .bool false, .bool false] 71)); rw [← HF.out.1, ← HF.out.2] at hS3; have cB := hS3.a1.cell j0; have vZ := via_state L.lb ⟨L.p, 0, none⟩ _ hS3.ls.cell0; have cZ := ls_state hS3.ls (j : Int); rw [eS f' HN2.out] at cZ; clear cZ; have H3 := Lib.hid hS3; clear hS3 hL3 hW3)
                    | (go_at_call 21; (with_reducible refine cZ.mono ?_); rintro e w5 ⟨rfl, rfl⟩))
                  go_roundw
                  case rel => exact ⟨j + 1, true, by omega, by go_num, rfl, HN.out _ true H3.out ⟨fun _ => .inl (by first | rfl | trivial), fun _ => rfl⟩⟩
                  case measure => simp [intOf]; omega
              · have HDD := Lib.hid hD
                have HS := Lib.hid hS
                have hls : f.s.st j = 0 → left j = 0 := fun e => by
                  by_cases q : left j = 0
                  · exact q
                  · exact absurd ⟨e, Nat.pos_of_ne_zero q⟩ hlk
                have q : todo f left + r ≤ 40 * (n * c) := by
                  rcases hT with h | h
                  · exact Nat.le_trans (Nat.add_le_add_right (Nat.le_succ _) r) h
                  · exact h.1
                obtain ⟨x0, hx0⟩ : ∃ x0, x0 = f.s.st j := ⟨_, rfl⟩
                rw [← hx0] at cY hls
                obtain ⟨l0, hl0⟩ : ∃ l0, l0 = left j := ⟨_, rfl⟩
                rw [← hl0] at cA hls
                have hcase : (x0 = 0 ∧ l0 = 0) ∨ x0 ≠ 0 := by
                  by_cases e : x0 = 0
                  · exact .inl ⟨e, hls e⟩
                  · exact .inr e
                have HX0 := Lib.hid (And.intro hx0 hl0)
                clear hx0 hl0 hls
                by_cases he : (f.did L j j).ev = 1
                · obtain ⟨e1, e2, e3, e4, e5, e6, e7⟩ := hV.grant HA.out jf hlk he
                  obtain ⟨bb, e1⟩ := e1
                  have hx1 : x0 ≠ 0 := fun e => by
                    rw [hV.at_idle (L := L) jf (by rw [← HX0.out.1]; exact e)] at he
                    exact absurd he (by decide)
                  have bx0 : (x0 == 0) = false := beq_false_of_ne hx1
                  obtain ⟨left', hleft⟩ : ∃ left', left' = left := ⟨_, rfl⟩
                  obtain ⟨f', hf'⟩ : ∃ f', f' = (f.step L j j).turn j 3 := ⟨_, rfl⟩
                  obtain ⟨gj, hgj⟩ : ∃ gj, gj = grants j + 1 := ⟨_, rfl⟩
                  rw [← hgj] at e3
                  have hadd : (grants j : Int) + 1 = (gj : Int) := by omega
                  obtain ⟨grants', hgr⟩ : ∃ grants', grants' = upd grants j gj := ⟨_, rfl⟩
                  have hg20 : gj ≤ 21 := by have := hV.cnt j jf; omega
                  have hw64 : wrap64 (gj : Int) = (gj : Int) := by rw [← IntWalk.i64_left, IntWalk.i64_in]; omega
                  have HN : Hid (∀ wX b', Sv w0 wX L f' A (A + 1) left' grants' → (b' = true ↔ (b = true ∨ Busy f' left' j)) → TurnSt w0 wX L n c A (A + 1) r (j + 1) b') := Lib.hid (fun wX b' hX hb => by
                    rw [← hf', ← hleft] at e4
                    rw [← hf', ← hgr, ← hleft] at e3
                    rw [← hf'] at e5 e6
                    rw [← hleft] at q
                    replace q := Nat.le_trans (Nat.add_le_add_right e4 r) q
                    have qD : f'.ps.D.length ≤ 8 * r + (j + 1) := by rw [hf']; exact Nat.le_trans e7 (Nat.succ_le_succ hD)
                    refine TurnSt.next hX (by rw [e6]; exact hfn) e3 qD hB (fun k hk => ?_) (.inl q) hb
                    unfold Busy
                    rw [hleft, e5, upd_other _ _ hk])
                  have HF := Lib.hid (And.intro hf' hgr)
                  have HE2 := Lib.hid e1
                  have HTE := Lib.hid e2
                  have HST := Lib.hid (show f'.s.st j = 3 by rw [hf', e5]; exact upd_same _ _ _)
                  have HN2 := Lib.hid (show f'.s.n = n by rw [hf', e6]; exact hfn)
                  have HLE := Lib.hid hleft
                  subst hleft
                  clear hS hV hD hB hT hlk e1 e2 e3 e4 e5 e6 e7 hf' hgr hfn he hcase hx1 HLE q hgj
                  cases b
                  · by_cases hl : 0 < left' j
                    · have hli : (0 : Int) < (left' j : Int) := by omega
                      go_wp2_with (first
                        | (go_at_call 21; (with_reducible refine cY.mono ?_); rintro e w1 ⟨rfl, rfl⟩; clear cY)
                        | (go_at_call 20; (with_reducible refine (ls_step HS.out.ls j j 0 (Nat.lt_of_le_of_lt HDD.out HRJ.out)).mono ?_); intro e w3 hq; unfold LsPost at hq; obtain ⟨rfl, hL3, hW3⟩ := hq; rw [HE2.out]; dsimp only [Dd.val]; have hS4 := (HS.out.call hL3 hW3).after ((Wrote.refl _ w3).alloc (.cells #[.int .i64 1, .bool false, .bool false, .bool bb] 71)); have d0 := hS4.a2.cell j0; have z0 := hS4.a2.frz j; have hS5 := hS4.set2 j gj; have vU := via_unlock L.lb ⟨L.p, 0, none⟩ _ hS5.ls.cell0; have cU := ls_unlock hS5.ls (j : Int); rw [HTE.out] at cU; have H5 := Lib.hid hS5; clear hS4 hS5 hL3 hW3)
                        | (go_at_call 19; (with_reducible refine cU.mono ?_); intro e w4 hq; unfold LsPost at hq; obtain ⟨rfl, hL3, hW3⟩ := hq; have hS3 := H5.out.call hL3 hW3; rw [← HF.out.1, ← HF.out.2] at hS3; have cB := hS3.a1.cell j0; have vZ := via_state L.lb ⟨L.p, 0, none⟩ _ hS3.ls.cell0; have cZ := ls_state hS3.ls (j : Int); rw [eS f' HN2.out] at cZ; clear cZ; have H3 := Lib.hid hS3; clear hS3 hL3 hW3)
                        | (go_at_call 21; (with_reducible refine cZ.mono ?_); rintro e w5 ⟨rfl, rfl⟩))
                      go_roundw
                      case rel => exact ⟨j + 1, true, by omega, by go_num, rfl, HN.out _ true H3.out ⟨fun _ => .inr (.inl hl), fun _ => rfl⟩⟩
                      case measure => simp [intOf]; omega
                    · have hl0 : left' j = 0 := by omega
                      have HL0 := Lib.hid hl0
                      have hli : ¬ (0 : Int) < (left' j : Int) := by omega
                      clear hl hl0
                      go_wp2_with (first
                        | (go_at_call 21; (with_reducible refine cY.mono ?_); rintro e w1 ⟨rfl, rfl⟩; clear cY)
                        | (go_at_call 20; (with_reducible refine (ls_step HS.out.ls j j 0 (Nat.lt_of_le_of_lt HDD.out HRJ.out)).mono ?_); intro e w3 hq; unfold LsPost at hq; obtain ⟨rfl, hL3, hW3⟩ := hq; rw [HE2.out]; dsimp only [Dd.val]; have hS4 := (HS.out.call hL3 hW3).after ((Wrote.refl _ w3).alloc (.cells #[.int .i64 1, .bool false, .bool false, .bool bb] 71)); have d0 := hS4.a2.cell j0; have z0 := hS4.a2.frz j; have hS5 := hS4.set2 j gj; have vU := via_unlock L.lb ⟨L.p, 0, none⟩ _ hS5.ls.cell0; have cU := ls_unlock hS5.ls (j : Int); rw [HTE.out] at cU; have H5 := Lib.hid hS5; clear hS4 hS5 hL3 hW3)
                        | (go_at_call 19; (with_reducible refine cU.mono ?_); intro e w4 hq; unfold LsPost at hq; obtain ⟨rfl, hL3, hW3⟩ := hq; have hS3 := H5.out.call hL3 hW3; rw [← HF.out.1, ← HF.out.2] at hS3; have cB := hS3.a1.cell j0; have vZ := via_state L.lb ⟨L.p, 0, none⟩ _ hS3.ls.cell0; have cZ := ls_state hS3.ls (j : Int); rw [eS f' HN2.out] at cZ; rw [HST.out] at cZ; have H3 := Lib.hid hS3; clear hS3 hL3 hW3)
                        | (go_at_call 21; (with_reducible refine cZ.mono ?_); rintro e w5 ⟨rfl, rfl⟩))
                      go_roundw
                      case rel => exact ⟨j + 1, true, by omega, by go_num, rfl, HN.out _ true H3.out ⟨fun _ => .inr (.inr (by rw [HST.out]; decide)), fun _ => rfl⟩⟩
                      case measure => simp [intOf]; omega
                  · go_wp2_with (first
                      | (go_at_call 21; (with_reducible refine cY.mono ?_); rintro e w1 ⟨rfl, rfl⟩; clear cY)
                      | (go_at_call 20; (with_reducible refine (ls_step HS.out.ls j j 0 (Nat.lt_of_le_of_lt HDD.out HRJ.out)).mono ?_); intro e w3 hq; unfold LsPost at hq; obtain ⟨rfl, hL3, hW3⟩ := hq; rw [HE2.out]; dsimp only [Dd.val]; have hS4 := (HS.out.call hL3 hW3).after ((Wrote.refl _ w3).alloc (.cells #[.int .i64 1, .bool false, .bool false, .bool bb] 71)); have d0 := hS4.a2.cell j0; have z0 := hS4.a2.frz j; have hS5 := hS4.set2 j gj; have vU := via_unlock L.lb ⟨L.p, 0, none⟩ _ hS5.ls.cell0; have cU := ls_unlock hS5.ls (j : Int); rw [HTE.out] at cU; have H5 := Lib.hid hS5; clear hS4 hS5 hL3 hW3)
                      | (go_at_call 19; (with_reducible refine cU.mono ?_); intro e w4 hq; unfold LsPost at hq; obtain ⟨rfl, hL3, hW3⟩ := hq; have hS3 := H5.out.call hL3 hW3; rw [← HF.out.1, ← HF.out.2] at hS3; have cB := hS3.a1.cell j0; have vZ := via_state L.lb ⟨L.p, 0, none⟩ _ hS3.ls.cell0; have cZ := ls_state hS3.ls (j : Int); rw [eS f' HN2.out] at cZ; clear cZ; have H3 := Lib.hid hS3; clear hS3 hL3 hW3)
                      | (go_at_call 21; (with_reducible refine cZ.mono ?_); rintro e w5 ⟨rfl, rfl⟩))
                    go_roundw
                    case rel => exact ⟨j + 1, true, by omega, by go_num, rfl, HN.out _ true H3.out ⟨fun _ => .inl (by first | rfl | trivial), fun _ => rfl⟩⟩
                    case measure => simp [intOf]; omega
                · obtain ⟨e3, e4, e5, e6, e7⟩ := hV.other HA.out jf hlk he
                  obtain ⟨left', hleft⟩ : ∃ left', left' = left := ⟨_, rfl⟩
                  obtain ⟨f', hf'⟩ : ∃ f', f' = f.step L j j := ⟨_, rfl⟩
                  have HN : Hid (∀ wX b', Sv w0 wX L f' A (A + 1) left' grants → (b' = true ↔ (b = true ∨ Busy f' left' j)) → TurnSt w0 wX L n c A (A + 1) r (j + 1) b') := Lib.hid (fun wX b' hX hb => by
                    rw [← hf'] at e3 e4 e5 e6 e7
                    rw [← hleft] at e3 e4 q hT
                    have qD : f'.ps.D.length ≤ 8 * r + (j + 1) := Nat.le_trans e7 (Nat.succ_le_succ hD)
                    refine TurnSt.next hX (by rw [e6]; exact hfn) e3 qD hB (fun k hk => ?_) ?_ hb
                    · unfold Busy
                      rw [hleft, e5 k hk]
                    · rcases e4 with e4 | ⟨e4, e8, e9⟩
                      · replace q := Nat.le_trans (Nat.add_le_add_right e4 r) q
                        exact .inl q
                      · rw [e4]
                        rcases hT with h | h
                        · exact .inl h
                        · refine .inr ⟨h.1, fun k hk => ?_⟩
                          by_cases ek : k = j
                          · subst ek; exact e8
                          · exact e9 k (h.2 k (by omega)))
                  have HF := Lib.hid hf'
                  have HN2 := Lib.hid (show f'.s.n = n by rw [hf', e6]; exact hfn)
                  obtain ⟨d, hd⟩ : ∃ d, d = f.did L j j := ⟨_, rfl⟩
                  rw [← hd] at he
                  obtain ⟨ev, enq, arr, lead⟩ := d
                  have be : (ev == 1) = false := beq_false_of_ne he
                  have HE2 := Lib.hid hd.symm
                  subst hleft
                  clear hS hV hD hB hT hlk e3 e4 e5 e6 e7 hf' hfn he hd q
                  rcases hcase with ⟨rfl, rfl⟩ | hx0
                  · skip
                    cases b
                    · by_cases hl : 0 < left' j
                      · have hli : (0 : Int) < (left' j : Int) := by omega
                        go_wp2_with (first
                          | (go_at_call 21; (with_reducible refine cY.mono ?_); rintro e w1 ⟨rfl, rfl⟩; clear cY)
                          | (go_at_call 20; (with_reducible refine (ls_step HS.out.ls j j 0 (Nat.lt_of_le_of_lt HDD.out HRJ.out)).mono ?_); intro e w3 hq; unfold LsPost at hq; obtain ⟨rfl, hL3, hW3⟩ := hq; rw [HE2.out]; dsimp only [Dd.val]; have hS3 := (HS.out.call hL3 hW3).after ((Wrote.refl _ w3).alloc (.cells #[.int .i64 ev, .bool enq, .bool arr, .bool lead] 71)); rw [← HF.out] at hS3; have cB := hS3.a1.cell j0; have vZ := via_state L.lb ⟨L.p, 0, none⟩ _ hS3.ls.cell0; have cZ := ls_state hS3.ls (j : Int); rw [eS f' HN2.out] at cZ; clear cZ; have H3 := Lib.hid hS3; clear hS3 hL3 hW3)
                          | (go_at_call 21; (with_reducible refine cZ.mono ?_); rintro e w5 ⟨rfl, rfl⟩))
                        go_roundw
                        case rel => exact ⟨j + 1, true, by omega, by go_num, rfl, HN.out _ true H3.out ⟨fun _ => .inr (.inl hl), fun _ => rfl⟩⟩
                        case measure => simp [intOf]; omega
                      · have hl0 : left' j = 0 := by omega
                        have HL0 := Lib.hid hl0
                        have hli : ¬ (0 : Int) < (left' j : Int) := by omega
                        clear hl hl0
                        by_cases hx : f'.s.st j = 0
                        · have HXX := Lib.hid hx
                          clear hx
                          go_wp2_with (first
                            | (go_at_call 21; (with_reducible refine cY.mono ?_); rintro e w1 ⟨rfl, rfl⟩; clear cY)
                            | (go_at_call 20; (with_reducible refine (ls_step HS.out.ls j j 0 (Nat.lt_of_le_of_lt HDD.out HRJ.out)).mono ?_); intro e w3 hq; unfold LsPost at hq; obtain ⟨rfl, hL3, hW3⟩ := hq; rw [HE2.out]; dsimp only [Dd.val]; have hS3 := (HS.out.call hL3 hW3).after ((Wrote.refl _ w3).alloc (.cells #[.int .i64 ev, .bool enq, .bool arr, .bool lead] 71)); rw [← HF.out] at hS3; have cB := hS3.a1.cell j0; have vZ := via_state L.lb ⟨L.p, 0, none⟩ _ hS3.ls.cell0; have cZ := ls_state hS3.ls (j : Int); rw [eS f' HN2.out] at cZ; rw [HXX.out] at cZ; have H3 := Lib.hid hS3; clear hS3 hL3 hW3)
                            | (go_at_call 21; (with_reducible refine cZ.mono ?_); rintro e w5 ⟨rfl, rfl⟩))
                          go_roundw
                          case rel =>
                            refine ⟨j + 1, false, by omega, by go_num, rfl, HN.out _ false H3.out ⟨fun e => (by cases e), fun e => ?_⟩⟩
                            rcases e with e | e | e
                            · cases e
                            · have := HL0.out; omega
                            · exact absurd HXX.out e
                          case measure => simp [intOf]; omega
                        · obtain ⟨x, hxx⟩ : ∃ x, x = f'.s.st j := ⟨_, rfl⟩
                          rw [← hxx] at hx
                          have bx : (x != 0) = true := by simpa using hx
                          have HXX := Lib.hid (And.intro hx hxx)
                          clear hx hxx
                          go_wp2_with (first
                            | (go_at_call 21; (with_reducible refine cY.mono ?_); rintro e w1 ⟨rfl, rfl⟩; clear cY)
                            | (go_at_call 20; (with_reducible refine (ls_step HS.out.ls j j 0 (Nat.lt_of_le_of_lt HDD.out HRJ.out)).mono ?_); intro e w3 hq; unfold LsPost at hq; obtain ⟨rfl, hL3, hW3⟩ := hq; rw [HE2.out]; dsimp only [Dd.val]; have hS3 := (HS.out.call hL3 hW3).after ((Wrote.refl _ w3).alloc (.cells #[.int .i64 ev, .bool enq, .bool arr, .bool lead] 71)); rw [← HF.out] at hS3; have cB := hS3.a1.cell j0; have vZ := via_state L.lb ⟨L.p, 0, none⟩ _ hS3.ls.cell0; have cZ := ls_state hS3.ls (j : Int); rw [eS f' HN2.out] at cZ; rw [← HXX.out.2] at cZ; have H3 := Lib.hid hS3; clear hS3 hL3 hW3)
                            | (go_at_call 21; (with_reducible refine cZ.mono ?_); rintro e w5 ⟨rfl, rfl⟩))
                          go_roundw
                          case rel => exact ⟨j + 1, true, by omega, by go_num, rfl, HN.out _ true H3.out ⟨fun _ => .inr (.inr (by rw [← HXX.out.2]; exact HXX.out.1)), fun _ => rfl⟩⟩
                          case measure => simp [intOf]; omega
                    · go_wp2_with (first
                        | (go_at_call 21; (with_reducible refine cY.mono ?_); rintro e w1 ⟨rfl, rfl⟩; clear cY)
                        | (go_at_call 20; (with_reducible refine (ls_step HS.out.ls j j 0 (Nat.lt_of_le_of_lt HDD.out HRJ.out)).mono ?_); intro e w3 hq; unfold LsPost at hq; obtain ⟨rfl, hL3, hW3⟩ := hq; rw [HE2.out]; dsimp only [Dd.val]; have hS3 := (HS.out.call hL3 hW3).after ((Wrote.refl _ w3).alloc (.cells #[.int .i64 ev, .bool enq, .bool arr, .bool lead] 71)); rw [← HF.out] at hS3; have cB := hS3.a1.cell j0; have vZ := via_state L.lb ⟨L.p, 0, none⟩ _ hS3.ls.cell0; have cZ := ls_state hS3.ls (j : Int); rw [eS f' HN2.out] at cZ; clear cZ; have H3 := Lib.hid hS3; clear hS3 hL3 hW3)
                        | (go_at_call 21; (with_reducible refine cZ.mono ?_); rintro e w5 ⟨rfl, rfl⟩))
                      go_roundw
                      case rel => exact ⟨j + 1, true, by omega, by go_num, rfl, HN.out _ true H3.out ⟨fun _ => .inl (by first | rfl | trivial), fun _ => rfl⟩⟩
                      case measure => simp [intOf]; omega
                  · have bx0 : (x0 == 0) = false := beq_false_of_ne hx0
                    clear hx0
                    cases b
                    · by_cases hl : 0 < left' j
                      · have hli : (0 : Int) < (left' j : Int) := by omega
                        go_wp2_with (first
                          | (go_at_call 21; (with_reducible refine cY.mono ?_); rintro e w1 ⟨rfl, rfl⟩; clear cY)
                          | (go_at_call 20; (with_reducible refine (ls_step HS.out.ls j j 0 (Nat.lt_of_le_of_lt HDD.out HRJ.out)).mono ?_); intro e w3 hq; unfold LsPost at hq; obtain ⟨rfl, hL3, hW3⟩ := hq; rw [HE2.out]; dsimp only [Dd.val]; have hS3 := (HS.out.call hL3 hW3).after ((Wrote.refl _ w3).alloc (.cells #[.int .i64 ev, .bool enq, .bool arr, .bool lead] 71)); rw [← HF.out] at hS3; have cB := hS3.a1.cell j0; have vZ := via_state L.lb ⟨L.p, 0, none⟩ _ hS3.ls.cell0; have cZ := ls_state hS3.ls (j : Int); rw [eS f' HN2.out] at cZ; clear cZ; have H3 := Lib.hid hS3; clear hS3 hL3 hW3)
                          | (go_at_call 21; (with_reducible refine cZ.mono ?_); rintro e w5 ⟨rfl, rfl⟩))
                        go_roundw
                        case rel => exact ⟨j + 1, true, by omega, by go_num, rfl, HN.out _ true H3.out ⟨fun _ => .inr (.inl hl), fun _ => rfl⟩⟩
                        case measure => simp [intOf]; omega
                      · have hl0 : left' j = 0 := by omega
                        have HL0 := Lib.hid hl0
                        have hli : ¬ (0 : Int) < (left' j : Int) := by omega
                        clear hl hl0
                        by_cases hx : f'.s.st j = 0
                        · have HXX := Lib.hid hx
                          clear hx
                          go_wp2_with (first
                            | (go_at_call 21; (with_reducible refine cY.mono ?_); rintro e w1 ⟨rfl, rfl⟩; clear cY)
                            | (go_at_call 20; (with_reducible refine (ls_step HS.out.ls j j 0 (Nat.lt_of_le_of_lt HDD.out HRJ.out)).mono ?_); intro e w3 hq; unfold LsPost at hq; obtain ⟨rfl, hL3, hW3⟩ := hq; rw [HE2.out]; dsimp only [Dd.val]; have hS3 := (HS.out.call hL3 hW3).after ((Wrote.refl _ w3).alloc (.cells #[.int .i64 ev, .bool enq, .bool arr, .bool lead] 71)); rw [← HF.out] at hS3; have cB := hS3.a1.cell j0; have vZ := via_state L.lb ⟨L.p, 0, none⟩ _ hS3.ls.cell0; have cZ := ls_state hS3.ls (j : Int); rw [eS f' HN2.out] at cZ; rw [HXX.out] at cZ; have H3 := Lib.hid hS3; clear hS3 hL3 hW3)
                            | (go_at_call 21; (with_reducible refine cZ.mono ?_); rintro e w5 ⟨rfl, rfl⟩))
                          go_roundw
                          case rel =>
                            refine ⟨j + 1, false, by omega, by go_num, rfl, HN.out _ false H3.out ⟨fun e => (by cases e), fun e => ?_⟩⟩
                            rcases e with e | e | e
                            · cases e
                            · have := HL0.out; omega
                            · exact absurd HXX.out e
                          case measure => simp [intOf]; omega
                        · obtain ⟨x, hxx⟩ : ∃ x, x = f'.s.st j := ⟨_, rfl⟩
                          rw [← hxx] at hx
                          have bx : (x != 0) = true := by simpa using hx
                          have HXX := Lib.hid (And.intro hx hxx)
                          clear hx hxx
                          go_wp2_with (first
                            | (go_at_call 21; (with_reducible refine cY.mono ?_); rintro e w1 ⟨rfl, rfl⟩; clear cY)
                            | (go_at_call 20; (with_reducible refine (ls_step HS.out.ls j j 0 (Nat.lt_of_le_of_lt HDD.out HRJ.out)).mono ?_); intro e w3 hq; unfold LsPost at hq; obtain ⟨rfl, hL3, hW3⟩ := hq; rw [HE2.out]; dsimp only [Dd.val]; have hS3 := (HS.out.call hL3 hW3).after ((Wrote.refl _ w3).alloc (.cells #[.int .i64 ev, .bool enq, .bool arr, .bool lead] 71)); rw [← HF.out] at hS3; have cB := hS3.a1.cell j0; have vZ := via_state L.lb ⟨L.p, 0, none⟩ _ hS3.ls.cell0; have cZ := ls_state hS3.ls (j : Int); rw [eS f' HN2.out] at cZ; rw [← HXX.out.2] at cZ; have H3 := Lib.hid hS3; clear hS3 hL3 hW3)
                            | (go_at_call 21; (with_reducible refine cZ.mono ?_); rintro e w5 ⟨rfl, rfl⟩))
                          go_roundw
                          case rel => exact ⟨j + 1, true, by omega, by go_num, rfl, HN.out _ true H3.out ⟨fun _ => .inr (.inr (by rw [← HXX.out.2]; exact HXX.out.1)), fun _ => rfl⟩⟩
                          case measure => simp [intOf]; omega
                    · go_wp2_with (first
                        | (go_at_call 21; (with_reducible refine cY.mono ?_); rintro e w1 ⟨rfl, rfl⟩; clear cY)
                        | (go_at_call 20; (with_reducible refine (ls_step HS.out.ls j j 0 (Nat.lt_of_le_of_lt HDD.out HRJ.out)).mono ?_); intro e w3 hq; unfold LsPost at hq; obtain ⟨rfl, hL3, hW3⟩ := hq; rw [HE2.out]; dsimp only [Dd.val]; have hS3 := (HS.out.call hL3 hW3).after ((Wrote.refl _ w3).alloc (.cells #[.int .i64 ev, .bool enq, .bool arr, .bool lead] 71)); rw [← HF.out] at hS3; have cB := hS3.a1.cell j0; have vZ := via_state L.lb ⟨L.p, 0, none⟩ _ hS3.ls.cell0; have cZ := ls_state hS3.ls (j : Int); rw [eS f' HN2.out] at cZ; clear cZ; have H3 := Lib.hid hS3; clear hS3 hL3 hW3)
                        | (go_at_call 21; (with_reducible refine cZ.mono ?_); rintro e w5 ⟨rfl, rfl⟩))
                      go_roundw
                      case rel => exact ⟨j + 1, true, by omega, by go_num, rfl, HN.out _ true H3.out ⟨fun _ => .inl (by first | rfl | trivial), fun _ => rfl⟩⟩
                      case measure => simp [intOf]; omega
            · skip
              obtain rfl : j = n := by omega
              unfold TurnSt at hT
              obtain ⟨f, left, grants, hS, hfn, hV, hD, hB, hT⟩ := hT
              cases b
              · have hno : ∀ k, k < f.s.n → ¬ Busy f left k := fun k hk hbk => by
                  have := hB.2 ⟨k, by omega, hbk⟩
                  cases this
                have hgr : ∀ k, k < j → grants k = c ∧ f.s.st k = 0 := fun k hk => by
                  have hb0 := hno k (by omega)
                  have hc0 := hV.cnt k (by omega)
                  unfold Busy at hb0
                  have s0 : f.s.st k = 0 := by
                    by_cases q : f.s.st k = 0
                    · exact q
                    · exact absurd (.inr q) hb0
                  have l0 : left k = 0 := by
                    by_cases q : left k = 0
                    · exact q
                    · exact absurd (.inl (Nat.pos_of_ne_zero q)) hb0
                  rw [s0, if_neg (by decide), l0] at hc0
                  exact ⟨by omega, s0⟩
                have v0 := via_state L.lb ⟨L.p, 0, none⟩ wr hS.ls.cell0
                have HS := Lib.hid (And.intro hS (And.intro hgr (And.intro hfn (none_left hV.ord fun k hk => (hgr k (by omega)).2))))
                clear hS hV hD hB hT hno hgr hfn
                go_wp2
                go_loop [99] (fun i => ∃ t : Nat, t ≤ j ∧ i = .int .i64 t) (fun i => j - (intOf i).toNat)
                case atStart => exact ⟨0, Nat.zero_le _, rfl⟩
                case round =>
                  obtain ⟨t, ht, rfl⟩ := hrel
                  by_cases htj : t < j
                  · have tj : (t : Int) < j := by omega
                    have t8 : (t : Int) < 8 := by omega
                    have cg := HS.out.1.a2.cell (show t < 8 by omega)
                    rw [(HS.out.2.1 t htj).1] at cg
                    have cY := ls_state HS.out.1.ls (t : Int)
                    have eS : f.s.stI (t : Int) = f.s.st t := by unfold SS.stI; rw [if_pos (by have := HS.out.2.2.1; omega), Int.toNat_natCast]
                    rw [eS, (HS.out.2.1 t htj).2] at cY
                    clear eS
                    go_wp2_with (go_at_call 21; (with_reducible refine cY.mono ?_); rintro e w5 ⟨rfl, rfl⟩)
                    go_round
                    case rel => exact ⟨t + 1, by omega, by go_num⟩
                    case measure => simp [intOf]; omega
                  · go_wp2
                    go_ret
                    exact ⟨rfl, f, HS.out.1.ls, HS.out.2.2.2⟩
              · have hbusy := hB.1 rfl
                have hR : RoundSt w0 wr L j c A (A + 1) (r + 1) := by
                  refine ⟨f, left, grants, hS, hfn, hV, by omega, ?_⟩
                  rcases hT with h | h
                  · rw [Nat.add_right_comm] at h
                    exact h
                  · obtain ⟨k, hk, hbk⟩ := hbusy
                    exact absurd hbk (hV.rest (fun k hk => h.2 k (by omega)) k (by omega))
                have HR2 := Lib.hid hR
                clear hS hV hD hB hT hbusy hR
                go_wp2
                go_roundw
                case rel => exact ⟨r + 1, by omega, by go_num, HR2.out⟩
                case measure => simp [intOf]; omega
        · exfalso
          obtain ⟨f, left, grants, q1, q2, q3, q4, q5⟩ := hR
          have := HM.out
          omega
end Go.Proofs.YtkmikkjjnbikdaaGreat
