/- For every input the Go function HierNews of weighlocklaw15 returns true, and its arguments read afterwards as before. Conditions: none. -/
import Derived.Test.YteacdcdjdbobnaaRows
import Derived.WalkKit
import Derived.ProofKit
import Derived.OpenShut
import Derived.ChangeOld
import Derived.Below
import Derived.Carry
import Derived.BigFrame
import Derived.BigQuiet
import Derived.Test.YteacdcdjdbobnaaHierNone
namespace Go.Proofs.Yteacdcdjdbobnaa.hierNews
open Go.ChangeShapes Go.WideShapes Go.ChangeAt Go.RowKit
set_option linter.unusedVariables false

theorem own : ownKnob Try.prog.godebug = none := by kernel_rfl
theorem laidOut : laidOutB Try.prog = true := by kernel_rfl

/-! the walk -/
set_option maxRecDepth 100000 in
set_option maxHeartbeats 4000000 in
theorem walk (s0 : Option Addr) (len0 cap0 : Nat) (z0 : List Int) (a1 : Int) (w : World) (l0 : len0 ≤ cap0 ∧ cap0 ≤ maxLen ∧ (s0 = none → cap0 = 0)) (r0 : RowAt .i64 w s0 len0 z0) (w0 : ∀ z ∈ z0, (Lit.int .i64 z).wf = true) (w1 : (Lit.int .u8 a1).wf = true) :
    Calls Try.prog 4 #[.slice s0 len0 cap0, .int .u8 a1] w fun e w' => e = .returned (.bool true) ∧ Below w.heap.size w w' := by
  have hm0 : len0 ≤ 9223372036854775807 := by have := l0.1; have := l0.2.1; unfold maxLen at this; omega
  obtain ⟨c0, c1⟩ := u8_bd w1
  obtain ⟨c, rfl⟩ := Int.eq_ofNat_of_zero_le c0
  have HC := Lib.hid (And.intro (show rowN (c : Int) = c by unfold rowN; omega) (show c < 256 by omega))
  clear w0 w1 l0
  by_cases h80 : 80 < len0
  · clear r0
    go_enter Try.func4, Try.ntmps4
    go_wp2_with (first
      | (go_at_call 8; (with_reducible refine (fl_awake _).mono ?_); intro e w9 hq; unfold AwakePost at hq; obtain ⟨rfl, hW9⟩ := hq))
    go_ret
    exact ⟨rfl, hW9.law⟩
  have HH := Lib.hid (And.intro r0 (True.intro))
  have cH : ∀ W, Wrote Nil w W → Calls Try.prog 18 #[.slice s0 len0 cap0] W fun e w' => e = .returned (.bool (homesOK z0)) ∧ W = w' := fun W k => homes_any (cap := cap0) (HH.out.1.after k) hm0
  have hlen : ∀ (x : Int), (([] : List Int) ++ List.replicate c x).length = c := fun x => by simp
  have HL := Lib.hid hlen
  clear hlen
  by_cases hbad : homesOK z0 = false ∨ len0 < 1 ∨ 64 < len0
  · have cN := fun W (k : Wrote Nil w W) p => fn_none (w := W) (p := p) (cap := cap0) (HH.out.1.after k) (by omega) hbad
    have HB := Lib.hid hbad
    have hcs : (len0 < 1) ∨ (¬ len0 < 1 ∧ 64 < len0) ∨ (¬ len0 < 1 ∧ ¬ 64 < len0 ∧ homesOK z0 = false) := by
      by_cases a : len0 < 1
      · exact .inl a
      · by_cases b : 64 < len0
        · exact .inr (.inl ⟨a, b⟩)
        · refine .inr (.inr ⟨a, b, ?_⟩)
          rcases hbad with q | q | q
          · exact q
          · exact absurd q a
          · exact absurd q b
    have HCN := Lib.hid cN
    clear hbad r0 cN
    rcases hcs with h1 | ⟨h1, h2⟩ | ⟨h1, h2, h3⟩
    all_goals
      try rw [h3] at cH
      have HCH := Lib.hid cH
      clear cH
      go_enter Try.func4, Try.ntmps4
      go_wp2_with (first
      | (go_at_call 15; (with_reducible refine (plnew_any 2 w).mono ?_); rintro e w1 ⟨q, rfl, hP, hnew, hW1⟩; have hN : PlN w q.p 2 [] [] w1 := ⟨q, rfl, hP, hnew, hW1⟩; have H1 := Lib.hid hN; clear hP hnew hW1 hN)
      | (go_at_call 16; (with_reducible refine (pn_row H1.out (c : Int) 0 3 (Nat.zero_le _)).mono ?_); intro e w2 hq; unfold PnPost at hq; obtain ⟨rfl, hN⟩ := hq; rw [HC.out.1] at hN; have H2 := Lib.hid hN; have hr2 := HH.out.1.after hN.old; clear hN; clear H1; have H1 := Lib.hid (True.intro))
      | (go_at_call 17; (with_reducible refine (HCN.out _ H2.out.old _).mono ?_); rintro e w3 ⟨rfl, rfl⟩; have cL := pn_len H2.out; rw [HL.out] at cL)
      | (go_at_call 18; (with_reducible refine (HCH.out _ H2.out.old).mono ?_); rintro e w3 ⟨rfl, rfl⟩)
      | (go_at_call 19; (with_reducible refine cL.mono ?_); rintro e w4 ⟨rfl, rfl⟩)
      | (go_at_call 8; (with_reducible refine (fl_awake _).mono ?_); intro e w9 hq; unfold AwakePost at hq; obtain ⟨rfl, hW9⟩ := hq))
      go_ret
      exact ⟨rfl, (H2.out.old.nil hW9).law⟩
  have ho : homesOK z0 = true := by
    cases e : homesOK z0
    · exact absurd (.inl e) hbad
    · rfl
  have n1 : 1 ≤ len0 := by omega
  have n2 : len0 ≤ 64 := by omega
  rw [ho] at cH
  have HCH := Lib.hid cH
  clear cH
  rcases r0.at with e0 | ⟨b, o, rfl, hc⟩
  · omega
  have hb : b < w.heap.size := World.block_lt_of_cell? w _ (hc 0 (by omega))
  have HE := Lib.hid (And.intro hb (And.intro ho HH.out.1.len))
  have e60 : ((([] ++ List.replicate c 0 ++ homesH z0 : List Int).length : Nat) : Int) = (c : Int) + 10 + len0 := by rw [List.length_append, homesH_len]; simp [HH.out.1.len]; omega
  have HQ := Lib.hid e60
  have hc6 := HC.out.2
  clear hb ho hbad r0 hc e60
  go_enter Try.func4, Try.ntmps4
  go_wp2_with (first
      | (go_at_call 15; (with_reducible refine (plnew_any 2 w).mono ?_); rintro e w1 ⟨q, rfl, hP, hnew, hW1⟩; have hN : PlN w q.p 2 [] [] w1 := ⟨q, rfl, hP, hnew, hW1⟩; have H1 := Lib.hid hN; clear hP hnew hW1 hN)
      | (go_at_call 16; (with_reducible refine (pn_row H1.out (c : Int) 0 3 (Nat.zero_le _)).mono ?_); intro e w2 hq; unfold PnPost at hq; obtain ⟨rfl, hN⟩ := hq; rw [HC.out.1] at hN; have H2 := Lib.hid hN; have hr2 := HH.out.1.after hN.old; clear hN; clear H1; have H1 := Lib.hid (True.intro))
      | (go_at_call 17; (with_reducible refine (pn_new H2.out HH.out.1 HE.out.1 HE.out.2.1 n1 n2 (by rw [HL.out]; have := HC.out.2; omega)).mono ?_); intro e w3 hq; unfold PnLock at hq; obtain ⟨L, he, hN3, hR, hlb⟩ := hq; obtain ⟨lb, hlb0⟩ : ∃ lb, lb = L.lb := ⟨_, rfl⟩; have q0 := hR.cell0; have cN := nd_raw hR 0; rw [if_pos (show 0 ≤ (0 : Int) ∧ (0 : Int) < ((newSeat len0 false false).n : Int) from ⟨Int.le_refl 0, (by show (0 : Int) < (len0 : Int); omega)⟩)] at cN; have cN : Calls Try.prog 13 #[.pointer (some ⟨L.lb, 0, none⟩), .int .i64 0] w3 fun e w' => e = .returned (.int .i64 1) ∧ w3 = w' := cN; rw [← hlb0] at he q0 cN; subst he; have cL := pn_len hN3; rw [HQ.out] at cL; have cK := se_len hR.seat; have H3 := Lib.hid (And.intro hN3 hlb); clear hN3 hR hlb hlb0)
      | (go_at_call 18; (with_reducible refine (HCH.out _ H3.out.1.old).mono ?_); rintro e w4 ⟨rfl, rfl⟩)
      | (go_at_call 20; (with_reducible refine cK.mono ?_); rintro e w4 ⟨rfl, rfl⟩)
      | (go_at_call 19; (with_reducible refine cL.mono ?_); rintro e w4 ⟨rfl, rfl⟩)
      | (go_at_call 13; (with_reducible refine cN.mono ?_); rintro e w4 ⟨rfl, rfl⟩)
      | (go_at_call 8; (with_reducible refine (fl_awake _).mono ?_); intro e w9 hq; unfold AwakePost at hq; obtain ⟨rfl, hW9⟩ := hq))
  go_ret
  exact ⟨rfl, (H3.out.1.old.nil hW9).law⟩

/-! the row -/
set_option maxRecDepth 100000 in
theorem lifted (os : Os) (started : os.Started) (H : Type) (enc : TypeId × Value → H) :
    ReturnsInHanded {} Try.checked os 4 .any (Rows.hierNewsSpec.pre6 enc Try.prog Try.f4 Rows.hierNewsRow.domain false) (Rows.hierNewsSpec.post enc Try.prog Try.f4 false true false false) := by
  refine returnsInHanded_of_change (C := Try.checked) own started (by kernel_rfl) Try.func4
    (ChangeSpec.witness6 (enc := enc) (C := Try.checked) false ⟨#[], #[.slice none 0 0, .int .u8 0], []⟩ 8 (by kernel_rfl) (by kernel_rfl) (by kernel_rfl) (by kernel_rfl)) ?_
  intro W base args ds gs before hval0 hW hcnd _
  have hval : ∀ (j : Nat) t v, Try.f4.params[j]? = some t → args[j]? = some v → Value.okWide Try.prog W .any base t v := hval0
  have hW' := hW
  obtain ⟨p, q, hA0, hV, rfl, hfz, hnd⟩ := hW
  have hA : DataW.TrodAll enc Try.prog W 0 (fun _ => true) true Try.f4.params.toList args.toList ds p := hA0
  rw [Try.params4] at hA hval
  obtain ⟨v0, vs0, d0, ds0, p0, q0, hargs, rfl, rfl, h0, r0'⟩ := trodAll_cons hA
  obtain ⟨v1, vs1, d1, ds1, p1, q1, rfl, rfl, rfl, h1, r1'⟩ := trodAll_cons r0'
  obtain ⟨rfl, rfl, rfl⟩ := trodAll_nil r1'
  obtain rfl : args = #[v0, v1] := by cases args; simp_all
  obtain ⟨rfl, rfl⟩ := trodVars_none hV
  have k0 := h0
  have lt0 : ∀ x ∈ p0, x.block < W.heap.size := by obtain ⟨m, hm⟩ := k0; exact DataW.trod_lt m _ _ _ hm
  obtain ⟨s0, len0, cap0, rfl⟩ := okWide_slice Try.underlying22 (hval 0 22 v0 rfl rfl)
  obtain ⟨l0, z0, r0, w0⟩ := open_slice_row Try.underlying22 Try.underlying3 (by kernel_rfl) h0
  obtain ⟨a1, rfl, rfl, rfl, w1⟩ := open_int Try.underlying5 (hval 1 5 v1 rfl rfl) h1
  clear hA0 hval0
  refine (walk s0 len0 cap0 z0 a1 W l0 r0 w0 w1).mono fun e W' ⟨he, bel⟩ => ?_
  subst he
  exact ⟨_, rfl, _, _, _, [], _, [], hW', trodAll_mk1 (shut_bool Try.underlying4 _), (trodAll_cons_mk (Below.trod laidOut (by kernel_rfl) (of_decide_eq_true (by kernel_rfl)) k0 bel lt0) (trodAll_cons_mk (shut_int Try.underlying5 w1) trodAll_mk0)), rfl, bel.frame _, fun h => by cases h⟩

theorem over : Rows.hierNewsRow.holds Try.pinned (OpenSpec.ofChange Rows.hierNewsSpec) :=
  OpenClaim.holds_of_wide 4 Try.f4 rfl rfl rfl rfl rfl rfl rfl ⟨rfl, rfl, rfl, rfl, rfl⟩ rfl rfl rfl rfl rfl (by kernel_rfl) Try.func4 (by kernel_rfl)
    (of_decide_eq_true (by kernel_rfl)) (by unfold Func.isWrapper; first | (rw [if_pos (by decide +kernel)]; kernel_rfl) | (rw [if_neg (by decide +kernel)]; exact ⟨rfl, rfl⟩))
    (fun os started H enc _ => lifted os started H enc)

/-- the statement -/
theorem proved : Rows.HierNewsSaid := over
#print axioms proved
end Go.Proofs.Yteacdcdjdbobnaa.hierNews
