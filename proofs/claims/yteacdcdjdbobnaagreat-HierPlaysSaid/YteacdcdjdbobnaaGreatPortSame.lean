/- The contract of the comparison of a port with the reference's. -/
import Derived.Test.YteacdcdjdbobnaaGreatPortRdo
namespace Go.Proofs.YteacdcdjdbobnaaGreat
open Go.RowKit
set_option linter.unusedVariables false
set_option maxRecDepth 100000

/-- three numbers are themselves -/
theorem eq_cnt (a b c : Int) (w : World) : (Op.equalIn 10000 109 (.agg #[.int .i64 a, .int .i64 b, .int .i64 c]) (.agg #[.int .i64 a, .int .i64 b, .int .i64 c])).run Tryz.prog w = .ok true w := by
  have u3 := Tryz.underlying3
  have a3 := Tryz.isAgg3
  have z3 := Tryz.sizeOf3
  rw [show (10000 : Nat) = 9999 + 1 from rfl, Op.equalIn]
  simp only [Sem.run_bind, run_underlying Tryz.underlying109, Result.andThen_ok]
  simp only [Std.Legacy.Range.forIn_eq_forIn_range', Std.Legacy.Range.size, Nat.sub_zero, Nat.add_sub_cancel, Nat.div_one, List.range'_succ, List.range'_zero, List.forIn_cons, List.forIn_nil]
  go_simp

def SamePost (w : World) (e : Ending) (w' : World) : Prop := e = .returned (.bool true) ∧ Wrote Nil w w'

set_option maxRecDepth 100000 in
set_option maxHeartbeats 2000000 in
theorem same_any {w : World} {q : Place} {hs : List Int} {s : PSta} {base r : Nat} (hP : PortAt w q hs s) (hR : RefSt w base r s) :
    Calls Tryz.prog 25 #[.pointer (some ⟨q.p, 0, none⟩), .pointer (some ⟨r, 0, none⟩)] w (SamePost w) := by
  obtain ⟨bk, so, cap, dv, hR⟩ := hR
  have p0 := hP.cell0
  have cW := words_any hP.mem
  have hws := hP.words
  have hac := hP.threads
  go_enter Tryz.func25, Tryz.ntmps25
  go_wp2_with (go_at_call 39; with_reducible refine cW.mono ?_; intro e w2 h2; unfold WordsPost at h2; obtain ⟨g, rfl, hrow, hg, hW2⟩ := h2; have hP2 := hP.after hW2; have hR2 := hR.after hW2 fun _ _ => id; have q0 := hP2.cell0; have r0 := hR2.cell0; have r1 := hR2.cell1; have cL := fun n => len_any (hP2.after ((Wrote.refl Nil w2).drewN n)).mem; have cT := fun n => pthreads_any (hP2.after ((Wrote.refl Nil w2).drewN n)))
  have HH := Lib.hid (And.intro hP2 (And.intro hR2 (And.intro hrow hW2)))
  clear cW hP hR hP2 hR2 hrow hW2 p0
  go_big_quiet (first
    | (go_at_call 40; exact Calls.quiet_of_same (cT _))
    | (go_at_call 41; exact (cL _).mono fun _ _ h => ⟨h.1, _, h.2.symm⟩))
  go_wp2
  go_loopw [45] (fun i wr => ∃ k : Nat, k ≤ s.ws.length ∧ i = .int .i64 k ∧ PortAt wr q hs s ∧ RefAt wr base r bk so cap dv s ∧ wr.rowIs g 84 s.ws.length (fun j => .int .u32 (s.ws.getD j 0)) ∧ Wrote Nil w wr) (fun i _ => s.ws.length - (intOf i).toNat)
  case atStart =>
    obtain ⟨f1, f2, f3, f4⟩ := HH.out
    have d := (Wrote.refl Nil w2).drewN nq
    exact ⟨0, Nat.zero_le _, rfl, f1.after d, f2.after d fun _ _ => id, f3.of_block rfl, f4.nil d⟩
  case round =>
    clear HH q0 r0 r1 cL cT
    obtain ⟨k, hk, rfl, hP, hR, hrow, hW⟩ := hrel
    by_cases hlt : k < s.ws.length
    · rcases hR.words.at with e0 | ⟨b, o, rfl, hc⟩
      · omega
      · have f1 := hrow.cell hlt
        have f2 := hc k hlt
        have f3 := hR.cell0
        obtain ⟨x, hx⟩ : ∃ x, x = s.ws.getD k 0 := ⟨_, rfl⟩
        rw [← hx] at f1 f2
        have f4 : (k : Int) < s.ws.length := by omega
        have HX := Lib.hid (And.intro hP (And.intro hR (And.intro hrow (And.intro hW (And.intro hx hc)))))
        clear hP hR hrow hW hx hc
        go_wp2
        go_quiet (fail)
        go_wp2
        go_roundw
        case rel =>
          obtain ⟨g1, g2, g3, g4, _⟩ := HX.out
          have d := (Wrote.refl Nil wr).drewN nq
          exact ⟨k + 1, by omega, by go_num, g1.after d, g2.after d fun _ _ => id, g3.of_block rfl, g4.nil d⟩
        case measure => simp [intOf]; omega
    · have r1 := hR.cell1
      have HX := Lib.hid (And.intro hP (And.intro hR hW))
      clear hP hR hrow hW
      go_wp2
      go_loopw [65] (fun i wr2 => ∃ t : Nat, t ≤ s.ac.length ∧ i = .int .i64 t ∧ PortAt wr2 q hs s ∧ RefAt wr2 base r bk so cap dv s ∧ Wrote Nil w wr2) (fun i _ => s.ac.length - (intOf i).toNat)
      case atStart => exact ⟨0, Nat.zero_le _, rfl, HX.out.1, HX.out.2.1, HX.out.2.2⟩
      case round =>
        clear HX r1
        obtain ⟨t, ht, rfl, hP, hR, hW⟩ := hrel
        by_cases htn : t < s.ac.length
        · have f0 := hR.count0 htn
          have f1 := hR.count1 htn
          have f2 := hR.count2 htn
          have f3 := hR.cell3
          have f4 : (t : Int) < s.ac.length := by omega
          have f5 : (0 : Int) ≤ t := by omega
          have cA := fun n => paccesses_any (hP.after ((Wrote.refl Nil wr).drewN n)) (t : Int)
          have cV := fun n => pwrites_any (hP.after ((Wrote.refl Nil wr).drewN n)) (t : Int)
          have cM := fun n => pmisses_any (hP.after ((Wrote.refl Nil wr).drewN n)) (t : Int)
          rw [cntI_at] at cA cV cM
          generalize s.ac.getD t 0 = x0 at f0 cA
          generalize s.wc.getD t 0 = x1 at f1 cV
          generalize s.mc.getD t 0 = x2 at f2 cM
          have HX := Lib.hid (And.intro hP (And.intro hR hW))
          have hq := eq_cnt (x0 : Int) x1 x2
          clear hP hR hW
          go_wp2
          go_big_quiet (first
            | (go_at_call 23; exact Calls.quiet_of_same (cA _))
            | (go_at_call 42; exact (cV _).mono fun _ _ h => ⟨h.1, _, h.2⟩)
            | (go_at_call 43; exact (cM _).mono fun _ _ h => ⟨h.1, _, h.2⟩))
          go_wp2
          go_roundw
          case rel =>
            obtain ⟨g1, g2, g4⟩ := HX.out
            have d := (Wrote.refl Nil wr).drewN nq
            exact ⟨t + 1, by omega, by go_num, g1.after d, g2.after d fun _ _ => id, g4.nil d⟩
          case measure => simp [intOf]; omega
        · have HX := Lib.hid hW
          clear hP hR hW
          go_wp2
          go_ret
          exact ⟨rfl, HX.out⟩
end Go.Proofs.YteacdcdjdbobnaaGreat
