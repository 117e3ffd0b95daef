/- For every input the Go function AbortTurns of weighlocklaw14 returns true, and its arguments read afterwards as before. Conditions: none. -/
import Derived.Test.YtdhpmcafekpfhaaRows
import Derived.WalkKit
import Derived.ProofKit
import Derived.OpenShut
import Derived.ChangeOld
import Derived.Below
import Derived.Carry
import Derived.Test.YtdhpmcafekpfhaaAbortZero
import Derived.Test.YtdhpmcafekpfhaaLockServed
namespace Go.Proofs.Ytdhpmcafekpfhaa.abortTurns
open Go.ChangeShapes Go.WideShapes Go.ChangeAt Go.RowKit
set_option linter.unusedVariables false

theorem own : ownKnob Try.prog.godebug = none := by kernel_rfl
theorem laidOut : laidOutB Try.prog = true := by kernel_rfl

/-! the walk -/
set_option maxRecDepth 100000 in
set_option maxHeartbeats 4000000 in
theorem walk (s0 : Option Addr) (len0 cap0 : Nat) (z0 : List Int) (a1 : Int) (a2 : Int) (w : World) (l0 : len0 ≤ cap0 ∧ cap0 ≤ maxLen ∧ (s0 = none → cap0 = 0)) (r0 : RowAt .i64 w s0 len0 z0) (w0 : ∀ z ∈ z0, (Lit.int .i64 z).wf = true) (w1 : (Lit.int .u8 a1).wf = true) (w2 : (Lit.int .u8 a2).wf = true) :
    Calls Try.prog 7 #[.slice s0 len0 cap0, .int .u8 a1, .int .u8 a2] w fun e w' => e = .returned (.bool true) ∧ Below w.heap.size w w' := by
  have hm0 : len0 ≤ 9223372036854775807 := by have := l0.1; have := l0.2.1; unfold maxLen at this; omega
  obtain ⟨b0, b1⟩ := u8_bd w2
  obtain ⟨d0, d1⟩ := u8_bd w1
  obtain ⟨c, hcc⟩ : ∃ c : Nat, a2 % 21 = (c : Int) := ⟨(a2 % 21).toNat, by omega⟩
  have hct : a2.tmod 21 = (c : Int) := by rw [Int.tmod_eq_emod_of_nonneg b0]; exact hcc
  obtain ⟨d, hee⟩ : ∃ d : Nat, a1 % 8 = (d : Int) := ⟨(a1 % 8).toNat, by omega⟩
  have het : a1.tmod 8 = (d : Int) := by rw [Int.tmod_eq_emod_of_nonneg d0]; exact hee
  obtain ⟨ea, hea⟩ : ∃ ea : Nat, ea = 1 + d := ⟨_, rfl⟩
  have e1 : 1 ≤ ea := by omega
  have e2 : ea ≤ 8 := by omega
  have g0 : IntKind.i64.wrap (d : Int) = (d : Int) := by rw [IntKind.wrap_i64]; omega
  have g1 : IntKind.i64.wrap (1 + (d : Int)) = 1 + (d : Int) := by rw [IntKind.wrap_i64]; omega
  have HC := Lib.hid (show c ≤ 20 by omega)
  have cF := fine_any (cap := cap0) r0 hm0 none 0 0 (by omega)
  cases hf : fineB len0 z0 0
  · rw [hf] at cF
    clear r0 hf w0 l0 w1 w2 hcc hee het g0 g1 hea
    go_enter Try.func7, Try.ntmps7
    go_wp2_with (first
      | (go_at_call 8; with_reducible refine cF.mono ?_; rintro e w2 ⟨rfl, rfl⟩)
      | (go_at_call 9; with_reducible refine (fl_awake _).mono ?_; intro e w2 hq; unfold AwakePost at hq; obtain ⟨rfl, hW⟩ := hq))
    go_ret
    exact ⟨rfl, hW.law⟩
  · rw [hf] at cF
    obtain ⟨n1, n8, ho, hm⟩ := fineB_no hf
    rcases r0.at with e0 | ⟨b, o, rfl, hc⟩
    · omega
    have hb : b < w.heap.size := World.block_lt_of_cell? w _ (hc 0 (by omega))
    have cM := fl_made (cap := cap0) r0 hb ho n1 (by omega) ea e1 e2
    rw [show (ea : Int) = 1 + (d : Int) by omega] at cM
    clear r0 hf w0 l0 w1 w2 hc ho hb hcc hee hea
    go_enter Try.func7, Try.ntmps7
    go_wp2_with (first
      | (go_at_call 8; with_reducible refine cF.mono ?_; rintro e w2 ⟨rfl, rfl⟩)
      | (go_at_call 10; (with_reducible refine cM.mono ?_); intro e w2 hq; unfold MdPost at hq; obtain ⟨L, rfl, hL, h1, h2, hhs⟩ := hq; have HA := Lib.hid (And.intro h1 (And.intro h2 hhs)); have H2 := Lib.hid hL; clear hL h1 h2 hhs)
      | (go_at_call 24; have hV := served_any H2.out (gg := none) ⟨ord_new len0 ea n8 e1 e2, cO_new _ _ _ _⟩ HA.out.1 HA.out.2.1 rfl (fun _ => rfl) n1 c HC.out; (with_reducible refine hV.mono ?_); intro e w4 hq; unfold SvPost at hq; obtain ⟨rfl, f, hS, ⟨gq, Q, hO⟩, hid⟩ := hq; have hz := fun t => outs_zero hO HA.out.2.1 hid t; have H4 := Lib.hid (And.intro hS hz); clear hV hS hO hid hz))
    go_loopw [39] (fun i wr => ∃ k : Nat, k ≤ len0 ∧ i = .int .i64 k ∧ LkS w wr L f) (fun i _ => len0 - (intOf i).toNat)
    case atStart => exact ⟨0, Nat.zero_le _, rfl, H4.out.1⟩
    case round =>
      obtain ⟨k, hk, rfl, hL⟩ := hrel
      by_cases hlt : k < len0
      · have jk : (k : Int) < len0 := by omega
        have cO := fl_outs hL.lk (k : Int)
        rw [H4.out.2] at cO
        have HL := Lib.hid hL
        clear hL
        go_wp2_with (first
          | (go_at_call 16; (with_reducible refine cO.mono ?_); rintro e w5 ⟨rfl, hW5⟩; have H5 := Lib.hid (HL.out.after hW5); clear hW5))
        go_roundw
        case rel => exact ⟨k + 1, by omega, by go_num, H5.out⟩
        case measure => simp [intOf]; omega
      · have HL := Lib.hid hL
        clear hL
        go_wp2_with (first
          | (go_at_call 9; with_reducible refine (fl_awake _).mono ?_; intro e w5 hq; unfold AwakePost at hq; obtain ⟨rfl, hW5⟩ := hq))
        go_ret
        exact ⟨rfl, (HL.out.wr.nil hW5).law⟩

/-! the row -/
set_option maxRecDepth 100000 in
theorem lifted (os : Os) (started : os.Started) (H : Type) (enc : TypeId × Value → H) :
    ReturnsInHanded {} Try.checked os 7 .any (Rows.abortTurnsSpec.pre6 enc Try.prog Try.f7 Rows.abortTurnsRow.domain false) (Rows.abortTurnsSpec.post enc Try.prog Try.f7 false true false false) := by
  refine returnsInHanded_of_change (C := Try.checked) own started (by kernel_rfl) Try.func7
    (ChangeSpec.witness6 (enc := enc) (C := Try.checked) false ⟨#[], #[.slice none 0 0, .int .u8 0, .int .u8 0], []⟩ 8 (by kernel_rfl) (by kernel_rfl) (by kernel_rfl) (by kernel_rfl)) ?_
  intro W base args ds gs before hval0 hW hcnd _
  have hval : ∀ (j : Nat) t v, Try.f7.params[j]? = some t → args[j]? = some v → Value.okWide Try.prog W .any base t v := hval0
  have hW' := hW
  obtain ⟨p, q, hA0, hV, rfl, hfz, hnd⟩ := hW
  have hA : DataW.TrodAll enc Try.prog W 0 (fun _ => true) true Try.f7.params.toList args.toList ds p := hA0
  rw [Try.params7] at hA hval
  obtain ⟨v0, vs0, d0, ds0, p0, q0, hargs, rfl, rfl, h0, r0'⟩ := trodAll_cons hA
  obtain ⟨v1, vs1, d1, ds1, p1, q1, rfl, rfl, rfl, h1, r1'⟩ := trodAll_cons r0'
  obtain ⟨v2, vs2, d2, ds2, p2, q2, rfl, rfl, rfl, h2, r2'⟩ := trodAll_cons r1'
  obtain ⟨rfl, rfl, rfl⟩ := trodAll_nil r2'
  obtain rfl : args = #[v0, v1, v2] := by cases args; simp_all
  obtain ⟨rfl, rfl⟩ := trodVars_none hV
  have k0 := h0
  have lt0 : ∀ x ∈ p0, x.block < W.heap.size := by obtain ⟨m, hm⟩ := k0; exact DataW.trod_lt m _ _ _ hm
  obtain ⟨s0, len0, cap0, rfl⟩ := okWide_slice Try.underlying22 (hval 0 22 v0 rfl rfl)
  obtain ⟨l0, z0, r0, w0⟩ := open_slice_row Try.underlying22 Try.underlying3 (by kernel_rfl) h0
  obtain ⟨a1, rfl, rfl, rfl, w1⟩ := open_int Try.underlying5 (hval 1 5 v1 rfl rfl) h1
  obtain ⟨a2, rfl, rfl, rfl, w2⟩ := open_int Try.underlying5 (hval 2 5 v2 rfl rfl) h2
  clear hA0 hval0
  refine (walk s0 len0 cap0 z0 a1 a2 W l0 r0 w0 w1 w2).mono fun e W' ⟨he, bel⟩ => ?_
  subst he
  exact ⟨_, rfl, _, _, _, [], _, [], hW', trodAll_mk1 (shut_bool Try.underlying4 _), (trodAll_cons_mk (Below.trod laidOut (by kernel_rfl) (of_decide_eq_true (by kernel_rfl)) k0 bel lt0) (trodAll_cons_mk (shut_int Try.underlying5 w1) (trodAll_cons_mk (shut_int Try.underlying5 w2) trodAll_mk0))), rfl, bel.frame _, fun h => by cases h⟩

theorem over : Rows.abortTurnsRow.holds Try.pinned (OpenSpec.ofChange Rows.abortTurnsSpec) :=
  OpenClaim.holds_of_wide 7 Try.f7 rfl rfl rfl rfl rfl rfl rfl ⟨rfl, rfl, rfl, rfl, rfl⟩ rfl rfl rfl rfl rfl (by kernel_rfl) Try.func7 (by kernel_rfl)
    (of_decide_eq_true (by kernel_rfl)) (by unfold Func.isWrapper; first | (rw [if_pos (by decide +kernel)]; kernel_rfl) | (rw [if_neg (by decide +kernel)]; exact ⟨rfl, rfl⟩))
    (fun os started H enc _ => lifted os started H enc)

/-- the statement -/
theorem proved : Rows.AbortTurnsSaid := over
#print axioms proved
end Go.Proofs.Ytdhpmcafekpfhaa.abortTurns
