/- For every input the Go function CacheWrites of weighlocklaw03 returns true, and its arguments read afterwards as before. Conditions: none. -/
import Derived.Test.YtdmehgmlomncaaaRows
import Derived.WalkKit
import Derived.ProofKit
import Derived.OpenShut
import Derived.ChangeOld
import Derived.Below
import Derived.Carry
import Derived.Test.YtdmehgmlomncaaaCacheLaw
namespace Go.Proofs.Ytdmehgmlomncaaa.cacheWrites
open Go.ChangeShapes Go.WideShapes Go.ChangeAt Go.RowKit
set_option linter.unusedVariables false

theorem own : ownKnob Try.prog.godebug = none := by kernel_rfl
theorem laidOut : laidOutB Try.prog = true := by kernel_rfl

/-! the walk -/
theorem touchC_len (cs : List Nat) (t a : Nat) (wr : Bool) : (touchC cs t a wr).length = cs.length := by simp [touchC]
theorem touchM_len (cs ms : List Nat) (t a : Nat) (wr : Bool) : (touchM cs ms t a wr).length = ms.length := by unfold touchM; split <;> simp
theorem mod8 (T : Int) : ∃ u : Nat, u < 8 ∧ (wrap64 (T.tmod 8 + 8)).tmod 8 = (u : Int) := by
  have h1 : -8 < T.tmod 8 ∧ T.tmod 8 < 8 := by
    have := Int.tmod_lt_of_pos T (show (0 : Int) < 8 by decide)
    have := Int.lt_tmod_of_pos T (show (0 : Int) < 8 by decide)
    omega
  have h2 : wrap64 (T.tmod 8 + 8) = T.tmod 8 + 8 := IntWalk.wrap64_in _ (by omega)
  rw [h2]
  have h3 := Int.tmod_lt_of_pos (T.tmod 8 + 8) (show (0 : Int) < 8 by decide)
  have h4 : 0 ≤ (T.tmod 8 + 8).tmod 8 := Int.tmod_nonneg 8 (by omega)
  exact ⟨((T.tmod 8 + 8).tmod 8).toNat, by omega, by omega⟩
/-- who has a copy behind one touch more -/
def stepH (H : List Bool) (t : Nat) (B : Bool) : List Bool := (if B then List.replicate 8 false else H).set t true
theorem stepH_len {H : List Bool} (h : H.length = 8) (t : Nat) (B : Bool) : (stepH H t B).length = 8 := by cases B <;> simp [stepH, h]
/-- a cache of 8 threads and one word, of which H says who has a copy -/
def WSt (w : World) (c bc bm : Nat) (H : List Bool) (lim : Nat) : Prop := ∃ cs ms : List Nat, cs.length = 1 ∧ ms.length = 8 ∧ (∀ u, u < 8 → (cs.getD 0 0).testBit u = H.getD u false) ∧ CacheAt w c bc bm cs ms lim
theorem WSt.wrote {w w' : World} {S : Nat → Prop} {c bc bm lim : Nat} {H : List Bool} (h : WSt w c bc bm H lim) (k : Wrote S w w') (n0 : ¬ S c) (n1 : ¬ S bc) (n2 : ¬ S bm) : WSt w' c bc bm H lim := by
  obtain ⟨cs, ms, h1, h2, h3, h4⟩ := h
  exact ⟨cs, ms, h1, h2, h3, h4.wrote k n0 n1 n2⟩
theorem WSt.after {w w' : World} {c bc bm lim : Nat} {H : List Bool} (h : WSt w c bc bm H lim) (k : Wrote Nil w w') : WSt w' c bc bm H lim := h.wrote k id id id
theorem WSt.lt {w : World} {c bc bm lim : Nat} {H : List Bool} (h : WSt w c bc bm H lim) : c < w.heap.size ∧ bc < w.heap.size ∧ bm < w.heap.size := by
  obtain ⟨cs, ms, _, _, _, h⟩ := h
  exact h.lt
theorem rep_getD (u : Nat) : (List.replicate 8 false).getD u false = false := by
  rw [List.getD_eq_getElem?_getD, List.getElem?_replicate]
  split <;> rfl
def WTouched (c bc bm : Nat) (H : List Bool) (lim : Nat) (w : World) (e : Ending) (w' : World) : Prop := ∃ v, e = .returned (.bool v) ∧ WSt w' c bc bm H lim ∧ Wrote (Two bc bm) w w'
theorem w_touch {w : World} {c bc bm lim : Nat} {H : List Bool} (h : WSt w c bc bm H lim) (hH : H.length = 8) (hl : lim < 1000) (t : Nat) (ht : t < 8) (B : Bool) :
    Calls Try.prog 10 #[.pointer (some ⟨c, 0, none⟩), .int .i64 t, .int .i64 0, .bool B] w (WTouched c bc bm (stepH H t B) (lim + 1) w) := by
  obtain ⟨cs, ms, h1, h2, h3, h4⟩ := h
  have d := touch_i h4 t 0 B (by omega) (by omega) (by omega)
  rw [show (t : Int).toNat = t by omega, show (0 : Int).toNat = 0 from rfl] at d
  refine d.mono ?_
  rintro e w' ⟨he, hC, hW⟩
  refine ⟨_, he, ⟨_, _, by rw [touchC_len]; exact h1, by rw [touchM_len]; exact h2, fun u hu => ?_, hC⟩, hW⟩
  have e1 : (touchC cs t 0 B).getD 0 0 = if B then 2 ^ t else cs.getD 0 0 ||| 2 ^ t := by simp [touchC, h1]
  have h5 := h3 u hu
  rw [e1]
  unfold stepH
  by_cases q : t = u
  · subst q
    cases B <;> simp [Nat.testBit_two_pow, ht, hH]
  · cases B
    · rw [if_neg (by decide), Nat.testBit_or, h5, Nat.testBit_two_pow]
      simp [q, List.getElem?_set]
    · rw [if_pos rfl, Nat.testBit_two_pow]
      rw [List.getD_eq_getElem?_getD, List.getElem?_set, if_neg q, ← List.getD_eq_getElem?_getD, if_pos rfl, rep_getD]
      simp [q]

theorem drewN_two (w : World) (a b : Nat) : (w.drewN a).drewN b = w.drewN (a + b) := by simp [World.drewN, Nat.add_assoc]
theorem w_has {w : World} {c bc bm lim : Nat} {H : List Bool} (h : WSt w c bc bm H lim) (u : Nat) (hu : u < 8) (x : Nat) :
    Calls Try.prog 12 #[.pointer (some ⟨c, 0, none⟩), .int .i64 u, .int .i64 0] (w.drewN x) fun e w' => e = .returned (.bool (H.getD u false)) ∧ ∃ n, w' = w.drewN n := by
  obtain ⟨cs, ms, h1, h2, h3, h4⟩ := h
  refine (chas_at (h4.after ((Wrote.refl Nil w).drewN x)) u 0 (by omega) (by omega)).mono ?_
  rintro e w' ⟨he, n, hw⟩
  rw [h3 u hu] at he
  exact ⟨he, x + n, by rw [hw, drewN_two]⟩
/-- the eight stores of an array of truths that is all false -/
def wiped (w : World) (hb : Nat) : World := (((((((w.setCell ⟨hb, 0, none⟩ (.bool false)).setCell ⟨hb, 1, none⟩ (.bool false)).setCell ⟨hb, 2, none⟩ (.bool false)).setCell ⟨hb, 3, none⟩ (.bool false)).setCell ⟨hb, 4, none⟩ (.bool false)).setCell ⟨hb, 5, none⟩ (.bool false)).setCell ⟨hb, 6, none⟩ (.bool false)).setCell ⟨hb, 7, none⟩ (.bool false)
theorem wiped_wrote (w : World) (hb : Nat) : Wrote (One hb) w (wiped w hb) := by
  unfold wiped
  have h : ∀ (v : World) (k : Nat), Wrote (One hb) w v → Wrote (One hb) w (v.setCell ⟨hb, k, none⟩ (.bool false)) := fun v k hv => hv.setCell _ _ fun _ => rfl
  exact h _ 7 (h _ 6 (h _ 5 (h _ 4 (h _ 3 (h _ 2 (h _ 1 (h _ 0 (Wrote.refl (One hb) w))))))))
theorem wiped_row {w : World} {hb : Nat} {H : List Bool} (h : w.heap[hb]? = some (.cells (H.map Value.bool).toArray 41 (0, 0))) (hH : H.length = 8) :
    (wiped w hb).heap[hb]? = some (.cells ((List.replicate 8 false).map Value.bool).toArray 41 (0, 0)) := by
  obtain ⟨x0, x1, x2, x3, x4, x5, x6, x7, rfl⟩ := list8 hH
  unfold wiped
  have s0 := blk_setCell h 0 (.bool false)
  have s1 := blk_setCell s0 1 (.bool false)
  have s2 := blk_setCell s1 2 (.bool false)
  have s3 := blk_setCell s2 3 (.bool false)
  have s4 := blk_setCell s3 4 (.bool false)
  have s5 := blk_setCell s4 5 (.bool false)
  have s6 := blk_setCell s5 6 (.bool false)
  have s7 := blk_setCell s6 7 (.bool false)
  rw [s7]
  simp [List.replicate]
theorem arr_cell {w : World} {hb : Nat} {H : List Bool} (h : w.heap[hb]? = some (.cells (H.map Value.bool).toArray 41 (0, 0))) (hH : H.length = 8) {u : Nat} (hu : u < 8) : w.cell? ⟨hb, u, none⟩ = some (.bool (H.getD u false)) := by
  rw [blk_cell h]
  simp [hH, hu]
theorem arr_set {w : World} {hb : Nat} {H : List Bool} (h : w.heap[hb]? = some (.cells (H.map Value.bool).toArray 41 (0, 0))) (u : Nat) (b : Bool) : (w.setCell ⟨hb, u, none⟩ (.bool b)).heap[hb]? = some (.cells ((H.set u b).map Value.bool).toArray 41 (0, 0)) := by
  rw [blk_setCell h]
  simp [List.map_set]

/-- behind the touch in the round -/
def WRoundPost (c bc bm : Nat) (H H' : List Bool) (lim hb q : Nat) (B : Bool) (w0 : World) (e : Ending) (w' : World) : Prop :=
  ∃ v, e = .returned (.bool v) ∧ WSt w' c bc bm H' lim ∧ Wrote Nil w0 w' ∧ w'.cell? ⟨q, 2, none⟩ = some (.bool B) ∧ w'.heap[hb]? = some (.cells (H.map Value.bool).toArray 41 (0, 0))
theorem w_round {w0 w : World} {c bc bm lim hb q : Nat} {H : List Bool} (h : WSt w c bc bm H lim) (hH : H.length = 8) (hl : lim < 1000) (t : Nat) (ht : t < 8) (B : Bool) (hW : Wrote Nil w0 w) (h1 : w0.heap.size ≤ bc) (h2 : w0.heap.size ≤ bm)
    (hx : w.cell? ⟨q, 2, none⟩ = some (.bool B)) (n1 : q ≠ bc) (n2 : q ≠ bm) (hA : w.heap[hb]? = some (.cells (H.map Value.bool).toArray 41 (0, 0))) (n3 : bc ≠ hb) (n4 : bm ≠ hb) :
    Calls Try.prog 10 #[.pointer (some ⟨c, 0, none⟩), .int .i64 t, .int .i64 0, .bool B] w (WRoundPost c bc bm H (stepH H t B) (lim + 1) hb q B w0) := by
  refine (w_touch h hH hl t ht B).mono ?_
  rintro e w' ⟨v, he, hS, hW2⟩
  exact ⟨v, he, hS, hW.trans hW2 (fun b hb x => by rcases x with x | x <;> omega), hW2.cell hx (by intro x; rcases x with x | x <;> simp only at x <;> omega),
    (hW2.block hb (blk_lt hA) (by intro x; rcases x with x | x <;> omega)).trans hA⟩

set_option maxRecDepth 100000 in
set_option maxHeartbeats 400000 in
theorem walk (s0 : Option Addr) (len0 cap0 : Nat) (z0 : Nat → Nat → Int) (w : World) (l0 : len0 ≤ cap0 ∧ cap0 ≤ maxLen ∧ (s0 = none → cap0 = 0)) (r0 : StructsK w [.int .i64, .int .i64, .bool] s0 len0 z0) :
    Calls Try.prog 6 #[.slice s0 len0 cap0] w fun e w' => e = .returned (.bool true) ∧ Below w.heap.size w w' := by
  have hml : len0 ≤ 9223372036854775807 := by have := l0.1; have := l0.2.1; unfold maxLen at this; omega
  have c1 := cnew_good (w := w) (threads := 8) (words := 1) (by decide) (by decide) (by decide)
  by_cases hl : 60 < len0
  · go_enter Try.func6, Try.ntmps6
    go_wp2_with (first
      | (go_at_call 8; refine c1.mono ?_; rintro e w1 ⟨c, bc, bm, rfl, hC1, q1, q2, q3, hW1⟩)
      | (go_at_call 7; refine (awake_any _).mono ?_; rintro e w6 ⟨rfl, hW6⟩))
    go_ret
    exact ⟨rfl, (hW1.nil hW6).law⟩
  have hat := r0.at (by decide)
  clear r0
  go_enter Try.func6, Try.ntmps6
  go_wp2_with (first
    | (go_at_call 8; refine c1.mono ?_; rintro e w1 ⟨c, bc, bm, rfl, hC1, g1, g2, g3, hW1⟩))
  clear c1
  have hA : (w1.alloc (.cells #[.bool false, .bool false, .bool false, .bool false, .bool false, .bool false, .bool false, .bool false] 41)).heap[w1.heap.size]? = some (.cells ((List.replicate 8 false).map Value.bool).toArray 41 (0, 0)) := Go.Deep.blk_alloc_new _ _
  have hlt1 := hC1.lt
  have hs1 := hW1.size
  have n1 : c ≠ w1.heap.size := by omega
  have n2 : bc ≠ w1.heap.size := by omega
  have n3 : bm ≠ w1.heap.size := by omega
  have n4 : w.heap.size ≤ w1.heap.size := hs1
  have hS0 : WSt (w1.alloc (.cells #[.bool false, .bool false, .bool false, .bool false, .bool false, .bool false, .bool false, .bool false] 41)) c bc bm (List.replicate 8 false) 0 :=
    ⟨_, _, rfl, rfl, fun u hu => by rw [rep_getD]; exact Nat.zero_testBit _, hC1.after ((Wrote.refl Nil w1).alloc _)⟩
  have hW0 := hW1.alloc (.cells #[.bool false, .bool false, .bool false, .bool false, .bool false, .bool false, .bool false, .bool false] 41)
  generalize w1.heap.size = hb at hA n1 n2 n3 n4 ⊢
  generalize w1.alloc (.cells #[.bool false, .bool false, .bool false, .bool false, .bool false, .bool false, .bool false, .bool false] 41) = w2 at hA hS0 hW0 ⊢
  clear hC1 hW1 hlt1 hs1
  go_loopw [36] (fun i wr => ∃ (k : Nat) (H : List Bool), k ≤ len0 ∧ i = .int .i64 k ∧ Hid (H.length = 8) ∧ Hid (wr.heap[hb]? = some (.cells (H.map Value.bool).toArray 41 (0, 0))) ∧ WSt wr c bc bm H k ∧ Wrote Nil w wr) (fun i _ => len0 - (intOf i).toNat)
  case atStart => exact ⟨0, _, Nat.zero_le _, rfl, Lib.hid (by simp), Lib.hid hA, hS0, hW0⟩
  case round =>
    clear hA hS0 hW0
    obtain ⟨k, H, hk, rfl, hH, hA, hC, hW⟩ := hrel
    by_cases hlt : k < len0
    · rcases hat with h0 | ⟨ob, oo, rfl, hz⟩
      · omega
      · have q0 : wr.cell? ⟨ob, oo + k * 3, none⟩ = some (.int .i64 (z0 k 0)) := hW.old (hz k hlt 0 _ rfl).1
        have q1 : wr.cell? ⟨ob, oo + k * 3 + 1, none⟩ = some (.int .i64 (z0 k 1)) := hW.old (hz k hlt 1 _ rfl).1
        have q2 : wr.cell? ⟨ob, oo + k * 3 + 2, none⟩ = some (.bool (decide (z0 k 2 = 1))) := hW.old (hz k hlt 2 _ rfl).1
        generalize z0 k 0 = T at q0
        generalize z0 k 1 = A at q1
        generalize decide (z0 k 2 = 1) = B at q2
        obtain ⟨u, hu, hq⟩ := mod8 T
        have hbl := hC.lt
        have hlA := blk_lt hA.out
        have dd := w_round (w0 := w) (q := wr.heap.size) (hb := hb) (hC.after ((Wrote.refl Nil wr).alloc (.cells #[.int .i64 T, .int .i64 A, .bool B] 31))) hH.out (by omega) u hu B (hW.alloc _) g2 g3 (by simp) (by omega) (by omega) (by rw [Go.Deep.blk_alloc_lt _ _ _ hlA]; exact hA.out) n2 n3
        have HC := Lib.hid (And.intro hz (And.intro hC (And.intro hW hq)))
        have hu' : (u : Int) < 8 := by omega
        have hu0 : (0 : Int) ≤ u := by omega
        clear hz hC hW hq
        cases B
        · go_wp2_with (go_at_call 10; rw [HC.out.2.2.2]; with_reducible refine dd.mono ?_; intro e w3 h3; unfold WRoundPost at h3; obtain ⟨v3, rfl, hC3, hW3, x3, a3⟩ := h3; have zc := arr_cell a3 hH.out hu; have zz := blk_frozen a3 u; have HT := Lib.hid (And.intro hC3 (And.intro hW3 a3)); clear a3 hC3 hW3)
          have a4 := arr_set HT.out.2.2 u true
          have hk4 := (Wrote.refl (One hb) w3).setCell ⟨hb, u, none⟩ (.bool true) fun _ => rfl
          have hC4 := HT.out.1.wrote hk4 n1 n2 n3
          have hW4 := HT.out.2.1.one hk4 n4
          clear zc zz x3  hk4
          
          go_loopw [55] (fun i wr2 => ∃ j : Nat, j ≤ 8 ∧ i = .int .i64 j ∧ Hid (wr2.heap[hb]? = some (.cells ((stepH H u false).map Value.bool).toArray 41 (0, 0))) ∧ WSt wr2 c bc bm (stepH H u false) (k + 1) ∧ Wrote Nil w wr2) (fun i _ => 8 - (intOf i).toNat)
          case atStart => exact ⟨0, Nat.zero_le _, rfl, Lib.hid a4, hC4, hW4⟩
          case round =>
            clear a4 hC4 hW4
            obtain ⟨j, hj, rfl, a5, hC5, hW5⟩ := hrel
            by_cases hj8 : j < 8
            · have e1 := arr_cell a5.out (stepH_len hH.out u false) hj8
              have e2 := w_has hC5 j hj8
              obtain ⟨v, hv⟩ : ∃ v, v = (stepH H u false).getD j false := ⟨_, rfl⟩
              rw [← hv] at e1 e2
              have hj' : (j : Int) < 8 := by omega
              have HV := Lib.hid (And.intro hC5 (And.intro hW5 hv))
              clear hC5 hW5 hv dd
              go_wp2
              go_big_quiet ((go_at_call 12; exact e2 _))
              go_wp2
              go_roundw
              case rel => exact ⟨j + 1, by omega, by go_num, a5, HV.out.1.after ((Wrote.refl Nil _).drewN _), HV.out.2.1.drewN _⟩
              case measure => simp [intOf]; omega
            · go_wp2
              go_roundw
              case rel => exact ⟨k + 1, _, by omega, by go_num, Lib.hid (stepH_len hH.out u false), a5, hC5, hW5⟩
              case measure => simp [intOf]; omega
        · go_wp2_with (go_at_call 10; rw [HC.out.2.2.2]; with_reducible refine dd.mono ?_; intro e w3 h3; unfold WRoundPost at h3; obtain ⟨v3, rfl, hC3, hW3, x3, a3⟩ := h3; have y0 := arr_cell a3 hH.out (show 0 < 8 by decide); have y1 := arr_cell a3 hH.out (show 1 < 8 by decide); have y2 := arr_cell a3 hH.out (show 2 < 8 by decide); have y3 := arr_cell a3 hH.out (show 3 < 8 by decide); have y4 := arr_cell a3 hH.out (show 4 < 8 by decide); have y5 := arr_cell a3 hH.out (show 5 < 8 by decide); have y6 := arr_cell a3 hH.out (show 6 < 8 by decide); have y7 := arr_cell a3 hH.out (show 7 < 8 by decide); have zf := fun j => blk_frozen a3 j; have zc := arr_cell (wiped_row a3 hH.out) (by simp) hu; have zz := blk_frozen (wiped_row a3 hH.out) u; unfold wiped at zc zz; have HT := Lib.hid (And.intro hC3 (And.intro hW3 a3)); clear a3 hC3 hW3)
          have a4 := arr_set (wiped_row HT.out.2.2 hH.out) u true
          have hk4 := (wiped_wrote w3 hb).setCell ⟨hb, u, none⟩ (.bool true) fun _ => rfl
          have hC4 := HT.out.1.wrote hk4 n1 n2 n3
          have hW4 := HT.out.2.1.one hk4 n4
          clear zc zz x3 y0 y1 y2 y3 y4 y5 y6 y7 zf hk4
          unfold wiped at a4 hC4 hW4
          go_loopw [55] (fun i wr2 => ∃ j : Nat, j ≤ 8 ∧ i = .int .i64 j ∧ Hid (wr2.heap[hb]? = some (.cells ((stepH H u true).map Value.bool).toArray 41 (0, 0))) ∧ WSt wr2 c bc bm (stepH H u true) (k + 1) ∧ Wrote Nil w wr2) (fun i _ => 8 - (intOf i).toNat)
          case atStart => exact ⟨0, Nat.zero_le _, rfl, Lib.hid a4, hC4, hW4⟩
          case round =>
            clear a4 hC4 hW4
            obtain ⟨j, hj, rfl, a5, hC5, hW5⟩ := hrel
            by_cases hj8 : j < 8
            · have e1 := arr_cell a5.out (stepH_len hH.out u true) hj8
              have e2 := w_has hC5 j hj8
              obtain ⟨v, hv⟩ : ∃ v, v = (stepH H u true).getD j false := ⟨_, rfl⟩
              rw [← hv] at e1 e2
              have hj' : (j : Int) < 8 := by omega
              have HV := Lib.hid (And.intro hC5 (And.intro hW5 hv))
              clear hC5 hW5 hv dd
              go_wp2
              go_big_quiet ((go_at_call 12; exact e2 _))
              go_wp2
              go_roundw
              case rel => exact ⟨j + 1, by omega, by go_num, a5, HV.out.1.after ((Wrote.refl Nil _).drewN _), HV.out.2.1.drewN _⟩
              case measure => simp [intOf]; omega
            · go_wp2
              go_roundw
              case rel => exact ⟨k + 1, _, by omega, by go_num, Lib.hid (stepH_len hH.out u true), a5, hC5, hW5⟩
              case measure => simp [intOf]; omega
    · go_wp2_with (go_at_call 7; refine (awake_any _).mono ?_; rintro e w6 ⟨rfl, hW6⟩)
      go_ret
      exact ⟨rfl, (hW.nil hW6).law⟩

/-! the row -/
set_option maxRecDepth 100000 in
theorem lifted (os : Os) (started : os.Started) (H : Type) (enc : TypeId × Value → H) :
    ReturnsInHanded {} Try.checked os 6 .any (Rows.cacheWritesSpec.pre6 enc Try.prog Try.f6 Rows.cacheWritesRow.domain false) (Rows.cacheWritesSpec.post enc Try.prog Try.f6 false true false false) := by
  refine returnsInHanded_of_change (C := Try.checked) own started (by kernel_rfl) Try.func6
    (ChangeSpec.witness6 (enc := enc) (C := Try.checked) false ⟨#[], #[.slice none 0 0], []⟩ 8 (by kernel_rfl) (by kernel_rfl) (by kernel_rfl) (by kernel_rfl)) ?_
  intro W base args ds gs before hval0 hW hcnd _
  have hval : ∀ (j : Nat) t v, Try.f6.params[j]? = some t → args[j]? = some v → Value.okWide Try.prog W .any base t v := hval0
  have hW' := hW
  obtain ⟨p, q, hA0, hV, rfl, hfz, hnd⟩ := hW
  have hA : DataW.TrodAll enc Try.prog W 0 (fun _ => true) true Try.f6.params.toList args.toList ds p := hA0
  rw [Try.params6] at hA hval
  obtain ⟨v0, vs0, d0, ds0, p0, q0, hargs, rfl, rfl, h0, r0'⟩ := trodAll_cons hA
  obtain ⟨rfl, rfl, rfl⟩ := trodAll_nil r0'
  obtain rfl : args = #[v0] := by cases args; simp_all
  obtain ⟨rfl, rfl⟩ := trodVars_none hV
  have k0 := h0
  have lt0 : ∀ x ∈ p0, x.block < W.heap.size := by obtain ⟨m, hm⟩ := k0; exact DataW.trod_lt m _ _ _ hm
  obtain ⟨s0, len0, cap0, rfl⟩ := okWide_slice Try.underlying22 (hval 0 22 v0 rfl rfl)
  obtain ⟨l0, z0, r0⟩ := open_slice_fk (ks := [.int .i64, .int .i64, .bool]) Try.underlying22 Try.underlying31 (by kernel_rfl) (by kernel_rfl) h0
  clear hA0 hval0
  refine (walk s0 len0 cap0 z0 W l0 r0).mono fun e W' ⟨he, bel⟩ => ?_
  subst he
  exact ⟨_, rfl, _, _, _, [], _, [], hW', trodAll_mk1 (shut_bool Try.underlying4 _), (trodAll_cons_mk (Below.trod laidOut (by kernel_rfl) (of_decide_eq_true (by kernel_rfl)) k0 bel lt0) trodAll_mk0), rfl, bel.frame _, fun h => by cases h⟩

theorem over : Rows.cacheWritesRow.holds Try.pinned (OpenSpec.ofChange Rows.cacheWritesSpec) :=
  OpenClaim.holds_of_wide 6 Try.f6 rfl rfl rfl rfl rfl rfl rfl ⟨rfl, rfl, rfl, rfl, rfl⟩ rfl rfl rfl rfl rfl (by kernel_rfl) Try.func6 (by kernel_rfl)
    (of_decide_eq_true (by kernel_rfl)) (by unfold Func.isWrapper; first | (rw [if_pos (by decide +kernel)]; kernel_rfl) | (rw [if_neg (by decide +kernel)]; exact ⟨rfl, rfl⟩))
    (fun os started H enc _ => lifted os started H enc)

/-- the statement -/
theorem proved : Rows.CacheWritesSaid := over
#print axioms proved
end Go.Proofs.Ytdmehgmlomncaaa.cacheWrites
