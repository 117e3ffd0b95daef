/- For every input the Go function SeatApart of weighlocklaw09 returns true, and its arguments read afterwards as before. Conditions: none. -/
import Derived.Test.YtlmkikdopmppiaaRows
import Derived.WalkKit
import Derived.ProofKit
import Derived.OpenShut
import Derived.ChangeOld
import Derived.Below
import Derived.Carry
import Derived.Test.YtlmkikdopmppiaaSeatLaw
import Derived.Deep.Cut
import Derived.Deep.CutBlock
import Derived.Deep.CutRange
import Derived.BigQuiet
import Derived.BigFrame
namespace Go.Proofs.Ytlmkikdopmppiaa.seatApart
open Go.ChangeShapes Go.WideShapes Go.ChangeAt Go.RowKit Go.BigFrame
set_option linter.unusedVariables false

theorem own : ownKnob Try.prog.godebug = none := by kernel_rfl
theorem laidOut : laidOutB Try.prog = true := by kernel_rfl

/-! the walk -/
/-- two numbers are themselves -/
theorem eq_two (a b : Int) (w : World) : (Op.equalIn 10000 45 (.agg #[.int .i64 a, .int .i64 b]) (.agg #[.int .i64 a, .int .i64 b])).run Try.prog w = .ok true w := by
  have u3 := Try.underlying3
  have a3 := Try.isAgg3
  have z3 := Try.sizeOf3
  rw [show (10000 : Nat) = 9999 + 1 from rfl, Op.equalIn]
  simp only [Sem.run_bind, run_underlying Try.underlying45, Result.andThen_ok]
  simp only [Std.Legacy.Range.forIn_eq_forIn_range', Std.Legacy.Range.size, Nat.sub_zero, Nat.add_sub_cancel, Nat.div_one, List.range'_succ, List.range'_zero, List.forIn_cons, List.forIn_nil]
  go_simp

/-- what the others do is the same -/
def Apart (s s' : SS) (T : Int) : Prop := ∀ t : Nat, ¬ (t : Int) = T → s'.stI (t : Int) = s.stI (t : Int) ∧ s'.dlI (t : Int) = s.dlI (t : Int)
theorem apart_set (s : SS) {T : Int} (hT : 0 ≤ T) (x d : Int) : Apart s (s.set T.toNat x d) T := fun t ht => by
  have e : t ≠ T.toNat := by omega
  unfold SS.stI SS.dlI
  constructor
  · show (if 0 ≤ (t : Int) ∧ (t : Int) < (s.n : Int) then upd s.st T.toNat x (t : Int).toNat else 0) = _
    rw [Int.toNat_natCast, upd_other _ _ e]
  · show (if 0 ≤ (t : Int) ∧ (t : Int) < (s.n : Int) then (if upd s.st T.toNat x (t : Int).toNat = 1 then upd s.dl T.toNat d (t : Int).toNat else -1) else -1) = _
    rw [Int.toNat_natCast, upd_other _ _ e, upd_other _ _ e]
theorem apart_same (s : SS) (T : Int) : Apart s s T := fun _ _ => ⟨rfl, rfl⟩
theorem apart_lock (s : SS) (T N : Int) : Apart s (s.lock T N) T := by
  unfold SS.lock
  split
  · rename_i h
    refine apart_set s ?_ _ _
    unfold lockE at h
    split at h
    · rename_i h2; exact h2.1.1
    · cases h
  · exact apart_same s T
theorem apart_turn (s : SS) (T x : Int) : Apart s (s.turn T x) T := by
  unfold SS.turn
  split
  · rename_i h
    refine apart_set s ?_ _ _
    unfold turnE at h
    split at h
    · rename_i h2; exact h2.1
    · cases h
  · exact apart_same s T
theorem apart_probe (s : SS) (T : Int) : Apart s (s.probe T) T := by
  unfold SS.probe
  split
  · exact apart_turn s T 4
  · exact apart_same s T
theorem apart_fin (s : SS) (T N : Int) : Apart s (s.fin T N) T := by
  unfold SS.fin
  split
  · rename_i y h
    refine apart_set s ?_ _ _
    unfold endO at h
    split at h
    · rename_i h2; exact h2.1
    · cases h
  · exact apart_same s T

def wasF (s : SS) (m t : Nat) : List Value := [.int .i64 (if t < m then s.stI (t : Int) else 0), .int .i64 (if t < m then s.dlI (t : Int) else 0)]
def wasC (s : SS) (m : Nat) : List Value := (List.range 8).flatMap (wasF s m)
theorem was_at (s : SS) (m : Nat) {k : Nat} (hk : k < 8) {j : Nat} (hj : j < 2) : (wasC s m)[k * 2 + j]? = (wasF s m k)[j]? := flat_at' (f := wasF s m) (fun _ => rfl) _ (by rw [List.getElem?_range hk]) hj
theorem was_more (s : SS) {m : Nat} (hm : m < 8) : ((wasC s m).set (m * 2 + 0) (.int .i64 (s.stI (m : Int)))).set (m * 2 + 1) (.int .i64 (s.dlI (m : Int))) = wasC s (m + 1) := by
  have h1 := flat_set (f := wasF s m) (f' := fun t => [.int .i64 (if t < m + 1 then s.stI (t : Int) else 0), .int .i64 (if t < m then s.dlI (t : Int) else 0)]) (s := 2) (fun _ => rfl) (fun _ => rfl) (List.range 8) m 0 (by decide) (.int .i64 (s.stI (m : Int))) (fun i x hx l hl => by
    obtain ⟨_, rfl⟩ : i < 8 ∧ x = i := by
      have hi : i < 8 := by have := (List.getElem?_eq_some_iff.1 hx).1; simpa using this
      rw [List.getElem?_range hi] at hx
      exact ⟨hi, by simpa using hx.symm⟩
    have : l = 0 ∨ l = 1 := by omega
    rcases this with rfl | rfl
    · by_cases e : x = m
      · subst e; simp
      · have : x < m + 1 ↔ x < m := by omega
        simp [wasF, e, this]
    · simp [wasF])
  have h2 := flat_set (f := fun t => [Value.int .i64 (if t < m + 1 then s.stI (t : Int) else 0), .int .i64 (if t < m then s.dlI (t : Int) else 0)]) (f' := wasF s (m + 1)) (s := 2) (fun _ => rfl) (fun _ => rfl) (List.range 8) m 1 (by decide) (.int .i64 (s.dlI (m : Int))) (fun i x hx l hl => by
    obtain ⟨_, rfl⟩ : i < 8 ∧ x = i := by
      have hi : i < 8 := by have := (List.getElem?_eq_some_iff.1 hx).1; simpa using this
      rw [List.getElem?_range hi] at hx
      exact ⟨hi, by simpa using hx.symm⟩
    have : l = 0 ∨ l = 1 := by omega
    rcases this with rfl | rfl
    · simp [wasF]
    · by_cases e : x = m
      · subst e; simp [wasF]
      · have : x < m + 1 ↔ x < m := by omega
        simp [wasF, e, this])
  unfold wasC
  rw [h1, h2]

/-- within a round: the round's own call lies in x, what each context did ahead of it in V -/
structure ApMid (w0 wr : World) (p b x V : Nat) (K T N : Int) (s s0 : SS) (m : Nat) : Prop where
  seat : SeatSince w0 wr p b s
  box : wr.heap[x]? = some (.cells #[.int .i64 K, .int .i64 T, .int .i64 N] 34 (0, 0))
  was : wr.heap[V]? = some (.cells (wasC s0 m).toArray 46 (0, 0))
  far : x ≠ b ∧ V ≠ b ∧ x ≠ V ∧ V ≠ p ∧ w0.heap.size ≤ V
section
variable {w0 wr w' : World} {p b x V : Nat} {K T N : Int} {s s0 : SS} {m : Nat}
theorem ApMid.after (h : ApMid w0 wr p b x V K T N s s0 m) (k : Wrote Nil wr w') : ApMid w0 w' p b x V K T N s s0 m :=
  ⟨h.seat.keep k, (k.block x (blk_lt h.box) id).trans h.box, (k.block V (blk_lt h.was) id).trans h.was, h.far⟩
theorem ApMid.step {s2 : SS} {v : Value} {e : Ending} (h : ApMid w0 wr p b x V K T N s s0 m) (k : SeatPost wr p b s2 v e w') : ApMid w0 w' p b x V K T N s2 s0 m :=
  ⟨h.seat.step k, (k.2.2.block x (blk_lt h.box) h.far.1).trans h.box, (k.2.2.block V (blk_lt h.was) h.far.2.1).trans h.was, h.far⟩
theorem ap_start (h : SeatSince w0 wr p b s) (K T N : Int) :
    ApMid w0 ((wr.alloc (.cells #[.int .i64 K, .int .i64 T, .int .i64 N] 34)).alloc (.cells #[.int .i64 0, .int .i64 0, .int .i64 0, .int .i64 0, .int .i64 0, .int .i64 0, .int .i64 0, .int .i64 0, .int .i64 0, .int .i64 0, .int .i64 0, .int .i64 0, .int .i64 0, .int .i64 0, .int .i64 0, .int .i64 0] 46)) p b wr.heap.size (wr.heap.size + 1) K T N s s 0 := by
  have n1 : (wr.alloc (.cells #[.int .i64 K, .int .i64 T, .int .i64 N] 34)).heap.size = wr.heap.size + 1 := Go.Deep.nblk_alloc _ _
  have hb := blk_lt h.at_.ctx
  have hp := blk_lt h.at_.obj
  have hs := h.wrote.size
  refine ⟨h.keep (((Wrote.refl Nil wr).alloc _).alloc _), ?_, ?_, by omega, by omega, by omega, by omega, by omega⟩
  · rw [Go.Deep.blk_alloc_lt _ _ _ (by omega), Go.Deep.blk_alloc_new]
  · rw [← n1, Go.Deep.blk_alloc_new]
    rfl
theorem ApMid.b0 (h : ApMid w0 wr p b x V K T N s s0 m) : wr.cell? ⟨x, 0, none⟩ = some (.int .i64 K) := by rw [blk_cell h.box]; rfl
theorem ApMid.b1 (h : ApMid w0 wr p b x V K T N s s0 m) : wr.cell? ⟨x, 1, none⟩ = some (.int .i64 T) := by rw [blk_cell h.box]; rfl
theorem ApMid.b2 (h : ApMid w0 wr p b x V K T N s s0 m) : wr.cell? ⟨x, 2, none⟩ = some (.int .i64 N) := by rw [blk_cell h.box]; rfl
theorem ApMid.v0 (h : ApMid w0 wr p b x V K T N s s0 m) {k : Nat} (hk : k < 8) : wr.cell? ⟨V, k * 2, none⟩ = some (.int .i64 (if k < m then s0.stI (k : Int) else 0)) := by
  rw [blk_cell h.was, List.getElem?_toArray]
  exact was_at s0 m hk (j := 0) (by decide)
theorem ApMid.v1 (h : ApMid w0 wr p b x V K T N s s0 m) {k : Nat} (hk : k < 8) : wr.cell? ⟨V, k * 2 + 1, none⟩ = some (.int .i64 (if k < m then s0.dlI (k : Int) else 0)) := by
  rw [blk_cell h.was, List.getElem?_toArray]
  exact was_at s0 m hk (j := 1) (by decide)
theorem ApMid.frozen (h : ApMid w0 wr p b x V K T N s s0 m) (k : Nat) : wr.frozen? ⟨V, k, none⟩ = false := blk_frozen h.was k
/-- what a context does is kept -/
theorem ApMid.keep (h : ApMid w0 wr p b x V K T N s s0 m) (hm : m < 8) :
    ApMid w0 ((wr.setCell ⟨V, m * 2, none⟩ (.int .i64 (s0.stI (m : Int)))).setCell ⟨V, m * 2 + 1, none⟩ (.int .i64 (s0.dlI (m : Int)))) p b x V K T N s s0 (m + 1) := by
  have J : Wrote (One V) wr ((wr.setCell ⟨V, m * 2, none⟩ (.int .i64 (s0.stI (m : Int)))).setCell ⟨V, m * 2 + 1, none⟩ (.int .i64 (s0.dlI (m : Int)))) := ((Wrote.refl (One V) wr).setCell ⟨V, m * 2, none⟩ _ fun _ => rfl).setCell ⟨V, m * 2 + 1, none⟩ _ fun _ => rfl
  obtain ⟨f1, f2, f3, f4, f5⟩ := h.far
  refine ⟨⟨h.seat.at_.wrote J (fun e => f4 (Eq.symm e)) (fun e => f2 (Eq.symm e)), h.seat.p, h.seat.b, h.seat.wrote.one J f5⟩, (J.block x (blk_lt h.box) f3).trans h.box, ?_, h.far⟩
  rw [blk_setCell (blk_setCell h.was _ _) _ _, List.setIfInBounds_toArray, List.setIfInBounds_toArray]
  rw [← was_more s0 hm]
  rfl
def ApPost (w0 : World) (p b x V : Nat) (K T N : Int) (s s0 : SS) (m : Nat) (v : Value) (e : Ending) (w' : World) : Prop := e = .returned v ∧ ApMid w0 w' p b x V K T N s s0 m
theorem ap_lock (h : ApMid w0 wr p b x V K T N s s0 m) : Calls Try.prog 11 #[.pointer (some ⟨p, 0, none⟩), .int .i64 T, .int .i64 N] wr (ApPost w0 p b x V K T N (s.lock T N) s0 m (.int .i64 (lockE s T N))) :=
  (se_lock h.seat.at_ T N).mono fun e w' k => ⟨k.1, h.step k⟩
theorem ap_unlock (h : ApMid w0 wr p b x V K T N s s0 m) : Calls Try.prog 13 #[.pointer (some ⟨p, 0, none⟩), .int .i64 T] wr (ApPost w0 p b x V K T N (s.turn T 3) s0 m (.int .i64 (turnE s T))) :=
  (se_unlock h.seat.at_ T).mono fun e w' k => ⟨k.1, h.step k⟩
theorem ap_probe (h : ApMid w0 wr p b x V K T N s s0 m) : Calls Try.prog 14 #[.pointer (some ⟨p, 0, none⟩), .int .i64 T] wr (ApPost w0 p b x V K T N (s.probe T) s0 m (.int .i64 (probeE s T))) :=
  (se_probe h.seat.at_ T).mono fun e w' k => ⟨k.1, h.step k⟩
theorem ap_end (h : ApMid w0 wr p b x V K T N s s0 m) : Calls Try.prog 16 #[.pointer (some ⟨p, 0, none⟩), .int .i64 T, .int .i64 N] wr (ApPost w0 p b x V K T N (s.fin T N) s0 m (.bool (endB s T N))) :=
  (se_end h.seat.at_ T N).mono fun e w' k => ⟨k.1, h.step k⟩
end

set_option maxRecDepth 100000 in
set_option maxHeartbeats 8000000 in
theorem walk (s0 : Option Addr) (len0 cap0 : Nat) (z0 : Nat → Nat → Int) (w : World) (l0 : len0 ≤ cap0 ∧ cap0 ≤ maxLen ∧ (s0 = none → cap0 = 0)) (r0 : Structs w [.i64, .i64, .i64] s0 len0 z0) :
    Calls Try.prog 5 #[.slice s0 len0 cap0] w fun e w' => e = .returned (.bool true) ∧ Below w.heap.size w w' := by
  have hml : len0 ≤ 9223372036854775807 := by have := l0.1; have := l0.2.1; unfold maxLen at this; omega
  have hat := r0.at (by decide)
  have HAT := Lib.hid hat
  have cN : ∀ W, Calls Try.prog 7 #[.int .i64 8, .bool true, .bool true] W (SinceNew W 8 true true) := fun W => si_new 8 true true (by decide) (by decide) W
  clear l0 r0 hat
  by_cases hlen : 60 < len0
  · go_enter Try.func5, Try.ntmps5
    go_wp2_with (first
      | (go_at_call 7; (with_reducible refine (cN _).mono ?_); intro e w1 hq; unfold SinceNew at hq; obtain ⟨p, b, rfl, h1⟩ := hq)
      | (go_at_call 6; refine (se_awake _).mono ?_; rintro e w6 ⟨rfl, hW6⟩))
    go_ret
    exact ⟨rfl, (h1.wrote.nil hW6).law⟩
  go_enter Try.func5, Try.ntmps5
  go_wp2_with (first
    | (go_at_call 7; (with_reducible refine (cN _).mono ?_); intro e w1 hq; unfold SinceNew at hq; obtain ⟨p, b, rfl, h1⟩ := hq))
  clear cN
  have hS : ∃ s : SS, SeatSince w w1 p b s := ⟨_, h1⟩
  clear h1
  go_loopw [36] (fun i wr => ∃ j : Nat, j ≤ len0 ∧ i = .int .i64 j ∧ ∃ s : SS, SeatSince w wr p b s) (fun i _ => len0 - (intOf i).toNat)
  case atStart => exact ⟨0, Nat.zero_le _, rfl, hS⟩
  case round =>
    clear hS
    obtain ⟨j, hj, rfl, s, hS⟩ := hrel
    by_cases hlt : j < len0
    · rcases HAT.out with e0 | ⟨gb, go, rfl, hcell⟩
      · omega
      have y0 : wr.cell? ⟨gb, go + j * 3, none⟩ = some (.int .i64 (z0 j 0)) := hS.wrote.old (hcell j hlt 0 _ rfl).1
      have y1 : wr.cell? ⟨gb, go + j * 3 + 1, none⟩ = some (.int .i64 (z0 j 1)) := hS.wrote.old (hcell j hlt 1 _ rfl).1
      have y2 : wr.cell? ⟨gb, go + j * 3 + 2, none⟩ = some (.int .i64 (z0 j 2)) := hS.wrote.old (hcell j hlt 2 _ rfl).1
      generalize z0 j 0 = K at y0
      generalize z0 j 1 = T at y1
      generalize z0 j 2 = N at y2
      clear hcell
      have hM := ap_start hS K T N
      clear hS
      go_wp2
      generalize ((wr.alloc (.cells #[.int .i64 K, .int .i64 T, .int .i64 N] 34)).alloc (.cells #[.int .i64 0, .int .i64 0, .int .i64 0, .int .i64 0, .int .i64 0, .int .i64 0, .int .i64 0, .int .i64 0, .int .i64 0, .int .i64 0, .int .i64 0, .int .i64 0, .int .i64 0, .int .i64 0, .int .i64 0, .int .i64 0] 46)) = X0 at hM ⊢
      generalize wr.heap.size + 1 = V at hM ⊢
      generalize wr.heap.size = x at hM ⊢
      clear y0 y1 y2
      go_loopw [40] (fun i w2 => ∃ t : Nat, t ≤ 8 ∧ i = .int .i64 t ∧ ApMid w w2 p b x V K T N s s t) (fun i _ => 8 - (intOf i).toNat)
      case atStart => exact ⟨0, Nat.zero_le _, rfl, hM⟩
      case round =>
        clear hM
        obtain ⟨t, ht, rfl, hM⟩ := hrel
        by_cases hlt8 : t < 8
        · have v0 := hM.v0 hlt8
          have v1 := hM.v1 hlt8
          have f0 := hM.frozen (t * 2)
          have f1 := hM.frozen (t * 2 + 1)
          have cS := se_state hM.seat.at_ (t : Int)
          have cD := se_deadline hM.seat.at_ (t : Int)
          have HK := Lib.hid (hM.keep hlt8)
          rw [if_neg (Nat.lt_irrefl t)] at v0 v1
          clear hM
          generalize s.stI (t : Int) = q0 at *
          generalize s.dlI (t : Int) = q1 at *
          go_wp2_with (first
            | (go_at_call 17; (with_reducible refine cS.mono ?_); rintro e w3 ⟨rfl, rfl⟩)
            | (go_at_call 18; (with_reducible refine cD.mono ?_); rintro e w3 ⟨rfl, rfl⟩))
          go_roundw
          case rel => exact ⟨t + 1, by omega, by go_num, HK.out⟩
          case measure => simp [intOf]; omega
        · obtain rfl : t = 8 := by omega
          have g0 := hM.b0
          have g1 := hM.b1
          have g2 := hM.b2
          have HM := Lib.hid hM
          clear hM hlt8
          go_upto_block 4 with fail
          go_cut [] from 55 to 82 (fun wx => ∃ s' : SS, Apart s s' T ∧ ApMid w wx p b x V K T N s' s 8)
          case first =>
            by_cases hK1 : K = 1
            · subst hK1
              have c := ap_lock HM.out
              go_wp2_with (go_at_call 11; (with_reducible refine c.mono ?_); intro e wF hq; unfold ApPost at hq; obtain ⟨rfl, hF⟩ := hq)
              go_meet
              exact ⟨_, apart_lock s T N, hF⟩
            · have k1 : (K == 1) = false := beq_false_of_ne hK1
              by_cases hK2 : K = 2
              · subst hK2
                have c := ap_unlock HM.out
                go_wp2_with (go_at_call 13; (with_reducible refine c.mono ?_); intro e wF hq; unfold ApPost at hq; obtain ⟨rfl, hF⟩ := hq)
                go_meet
                exact ⟨_, apart_turn s T 3, hF⟩
              · have k2 : (K == 2) = false := beq_false_of_ne hK2
                by_cases hK3 : K = 3
                · subst hK3
                  have c := ap_probe HM.out
                  go_wp2_with (go_at_call 14; (with_reducible refine c.mono ?_); intro e wF hq; unfold ApPost at hq; obtain ⟨rfl, hF⟩ := hq)
                  go_meet
                  exact ⟨_, apart_probe s T, hF⟩
                · have k3 : (K == 3) = false := beq_false_of_ne hK3
                  by_cases hK4 : K = 4
                  · subst hK4
                    have c := ap_end HM.out
                    go_wp2_with (go_at_call 16; (with_reducible refine c.mono ?_); intro e wF hq; unfold ApPost at hq; obtain ⟨rfl, hF⟩ := hq)
                    go_meet
                    exact ⟨_, apart_fin s T N, hF⟩
                  · have k4 : (K == 4) = false := beq_false_of_ne hK4
                    clear hK1 hK2 hK3 hK4 g1 g2
                    go_wp2
                    go_meet
                    exact ⟨s, apart_same s T, HM.out⟩
          case rest =>
            clear HM g0 g1 g2
            obtain ⟨s', hA, hM⟩ := hcut
            have HA := Lib.hid hA
            clear hA
            go_wp2
            go_loopw [83] (fun i w2 => ∃ t : Nat, t ≤ 8 ∧ i = .int .i64 t ∧ ApMid w w2 p b x V K T N s' s 8) (fun i _ => 8 - (intOf i).toNat)
            case atStart => exact ⟨0, Nat.zero_le _, rfl, hM⟩
            case round =>
              clear hM
              obtain ⟨t, ht, rfl, hM⟩ := hrel
              by_cases hlt8 : t < 8
              · have g1 := hM.b1
                by_cases hT : (t : Int) = T
                · have hTb : ((t : Int) != T) = false := by simp [hT]
                  have HM := Lib.hid hM
                  clear hM
                  go_wp2
                  go_big_quiet (fail)
                  go_wp2
                  go_roundw
                  case rel => exact ⟨t + 1, by omega, by go_num, HM.out.after ((Wrote.refl Nil wr).drewN _)⟩
                  case measure => simp [intOf]; omega
                · have hTb : ((t : Int) != T) = true := by simp [hT]
                  have v0 := hM.v0 hlt8
                  have v1 := hM.v1 hlt8
                  rw [if_pos hlt8] at v0 v1
                  obtain ⟨a1, a2⟩ := HA.out t hT
                  have cA : ∀ m, Calls Try.prog 17 #[.pointer (some ⟨p, 0, none⟩), .int .i64 (t : Int)] (wr.drewN m) fun e w' => e = .returned (.int .i64 (s.stI (t : Int))) ∧ w' = wr.drewN m := fun m => by
                    rw [← a1]
                    exact (se_state (hM.after ((Wrote.refl Nil wr).drewN m)).seat.at_ (t : Int)).mono fun e w' h => ⟨h.1, h.2.symm⟩
                  have cB : ∀ m, Calls Try.prog 18 #[.pointer (some ⟨p, 0, none⟩), .int .i64 (t : Int)] (wr.drewN m) fun e w' => e = .returned (.int .i64 (s.dlI (t : Int))) ∧ w' = wr.drewN m := fun m => by
                    rw [← a2]
                    exact (se_deadline (hM.after ((Wrote.refl Nil wr).drewN m)).seat.at_ (t : Int)).mono fun e w' h => ⟨h.1, h.2.symm⟩
                  have HM := Lib.hid hM
                  clear hM a1 a2 hT
                  generalize s.stI (t : Int) = q0 at *
                  generalize s.dlI (t : Int) = q1 at *
                  have hq := eq_two q0 q1
                  go_wp2
                  go_big_quiet (first
                    | (go_at_call 17; exact Calls.quiet_of_same (cA _))
                    | (go_at_call 18; exact (cB _).mono fun _ _ h => ⟨h.1, _, h.2⟩))
                  go_wp2
                  go_roundw
                  case rel => exact ⟨t + 1, by omega, by go_num, HM.out.after ((Wrote.refl Nil wr).drewN _)⟩
                  case measure => simp [intOf]; omega
              · obtain rfl : t = 8 := by omega
                have HF := Lib.hid hM.seat
                clear hM
                go_wp2
                go_roundw
                case rel => exact ⟨j + 1, by omega, by go_num, s', HF.out⟩
                case measure => simp [intOf]; omega
    · have hlI : ¬ (j : Int) < (len0 : Int) := by omega
      have HF := Lib.hid hS
      clear hS
      go_wp2_with (go_at_call 6; refine (se_awake _).mono ?_; rintro e w6 ⟨rfl, hW6⟩)
      go_ret
      exact ⟨rfl, (HF.out.wrote.nil hW6).law⟩

/-! the row -/
set_option maxRecDepth 100000 in
theorem lifted (os : Os) (started : os.Started) (H : Type) (enc : TypeId × Value → H) :
    ReturnsInHanded {} Try.checked os 5 .any (Rows.seatApartSpec.pre6 enc Try.prog Try.f5 Rows.seatApartRow.domain false) (Rows.seatApartSpec.post enc Try.prog Try.f5 false true false false) := by
  refine returnsInHanded_of_change (C := Try.checked) own started (by kernel_rfl) Try.func5
    (ChangeSpec.witness6 (enc := enc) (C := Try.checked) false ⟨#[], #[.slice none 0 0], []⟩ 8 (by kernel_rfl) (by kernel_rfl) (by kernel_rfl) (by kernel_rfl)) ?_
  intro W base args ds gs before hval0 hW hcnd _
  have hval : ∀ (j : Nat) t v, Try.f5.params[j]? = some t → args[j]? = some v → Value.okWide Try.prog W .any base t v := hval0
  have hW' := hW
  obtain ⟨p, q, hA0, hV, rfl, hfz, hnd⟩ := hW
  have hA : DataW.TrodAll enc Try.prog W 0 (fun _ => true) true Try.f5.params.toList args.toList ds p := hA0
  rw [Try.params5] at hA hval
  obtain ⟨v0, vs0, d0, ds0, p0, q0, hargs, rfl, rfl, h0, r0'⟩ := trodAll_cons hA
  obtain ⟨rfl, rfl, rfl⟩ := trodAll_nil r0'
  obtain rfl : args = #[v0] := by cases args; simp_all
  obtain ⟨rfl, rfl⟩ := trodVars_none hV
  have k0 := h0
  have lt0 : ∀ x ∈ p0, x.block < W.heap.size := by obtain ⟨m, hm⟩ := k0; exact DataW.trod_lt m _ _ _ hm
  obtain ⟨s0, len0, cap0, rfl⟩ := okWide_slice Try.underlying22 (hval 0 22 v0 rfl rfl)
  obtain ⟨l0, z0, r0⟩ := open_slice_ints (ks := [.i64, .i64, .i64]) Try.underlying22 Try.underlying34 (by kernel_rfl) (by kernel_rfl) h0
  clear hA0 hval0
  refine (walk s0 len0 cap0 z0 W l0 r0).mono fun e W' ⟨he, bel⟩ => ?_
  subst he
  exact ⟨_, rfl, _, _, _, [], _, [], hW', trodAll_mk1 (shut_bool Try.underlying4 _), (trodAll_cons_mk (Below.trod laidOut (by kernel_rfl) (of_decide_eq_true (by kernel_rfl)) k0 bel lt0) trodAll_mk0), rfl, bel.frame _, fun h => by cases h⟩

theorem over : Rows.seatApartRow.holds Try.pinned (OpenSpec.ofChange Rows.seatApartSpec) :=
  OpenClaim.holds_of_wide 5 Try.f5 rfl rfl rfl rfl rfl rfl rfl ⟨rfl, rfl, rfl, rfl, rfl⟩ rfl rfl rfl rfl rfl (by kernel_rfl) Try.func5 (by kernel_rfl)
    (of_decide_eq_true (by kernel_rfl)) (by unfold Func.isWrapper; first | (rw [if_pos (by decide +kernel)]; kernel_rfl) | (rw [if_neg (by decide +kernel)]; exact ⟨rfl, rfl⟩))
    (fun os started H enc _ => lifted os started H enc)

/-- the statement -/
theorem proved : Rows.SeatApartSaid := over
#print axioms proved
end Go.Proofs.Ytlmkikdopmppiaa.seatApart
