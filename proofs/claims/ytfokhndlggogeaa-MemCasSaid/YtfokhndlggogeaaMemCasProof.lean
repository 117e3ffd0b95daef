/- For every input the Go function MemCas of weighlocklaw02 returns true, and its arguments read afterwards as before. Conditions: none. -/
import Derived.Test.YtfokhndlggogeaaRows
import Derived.WalkKit
import Derived.ProofKit
import Derived.OpenShut
import Derived.ChangeOld
import Derived.Below
import Derived.Carry
import Derived.Test.YtfokhndlggogeaaMemLaw
namespace Go.Proofs.Ytfokhndlggogeaa.memCas
open Go.ChangeShapes Go.WideShapes Go.ChangeAt Go.RowKit
set_option linter.unusedVariables false

theorem own : ownKnob Try.prog.godebug = none := by kernel_rfl
theorem laidOut : laidOutB Try.prog = true := by kernel_rfl

/-! the walk -/
set_option maxHeartbeats 1000000 in
theorem walk (a0_0 a0_1 a0_2 a0_3 : Int) (w : World) (w0_0 : (Lit.int .u32 a0_0).wf = true) (w0_1 : (Lit.int .u32 a0_1).wf = true) (w0_2 : (Lit.int .u32 a0_2).wf = true) (w0_3 : (Lit.int .u32 a0_3).wf = true) :
    Calls Try.prog 7 #[.agg #[.int .u32 a0_0, .int .u32 a0_1, .int .u32 a0_2, .int .u32 a0_3]] w fun e w' => e = .returned (.bool true) ∧ Below w.heap.size w w' := by
  obtain ⟨l0, m0⟩ := u32_bd w0_0
  obtain ⟨l2, m2⟩ := u32_bd w0_2
  obtain ⟨l3, m3⟩ := u32_bd w0_3
  have cb1 := cas_one a0_0 a0_1
  have cl1 := casL_one a0_0 a0_1 a0_2
  have cb2 := cas_one a0_2 a0_1
  have cl2 := casL_one a0_2 a0_1 a0_3
  have cl3 := casL_one a0_0 a0_1 a0_3
  by_cases h1 : a0_0 = a0_1
  · rw [if_pos h1] at cl1
    rw [decide_eq_true h1] at cb1
    have t1 : (a0_0 == a0_1) = true := by simp [h1]
    by_cases h2 : a0_2 = a0_1
    · rw [if_pos h2] at cl2
      rw [decide_eq_true h2] at cb2
      have t2 : (a0_2 == a0_1) = true := by simp [h2]
      clear h1 h2 cl3
      go_enter Try.func7, Try.ntmps7
      go_wp2
      go_quiet (fail)
      go_wp2_with (first
        | (go_at_call 9; refine (new_since (w0 := w) ((((Wrote.refl Nil w).alloc _).drewN _).alloc _) (hs := [1]) (m := 1) (row_one (by simp)) (by decide) (by decide)).mono ?_; rintro e w1 ⟨b, bw, hv, rfl, hM1, hb, hbw, hown, hW1⟩)
        | (go_at_call 18; have c := store_any hM1 0 a0_0 l0 m0; rw [show storeL (List.replicate 1 0) 0 a0_0 = [a0_0] from rfl] at c; with_reducible refine c.mono ?_; rintro e w2 ⟨rfl, hM2, hW2⟩)
        | (go_at_call 19; have c := cas_any hM2 0 a0_1 a0_2 l2 m2; rw [cb1, cl1] at c; with_reducible refine c.mono ?_; rintro e w3 ⟨rfl, hM3, hW3⟩)
        | (go_at_call 16; have c := load_any hM3 0; rw [show loadI [a0_2] 0 = a0_2 from rfl] at c; with_reducible refine c.mono ?_; rintro e w4 ⟨rfl, rfl⟩)
        | (go_at_call 19; have c := cas_any hM3 0 a0_1 a0_3 l3 m3; rw [cb2, cl2] at c; with_reducible refine c.mono ?_; rintro e w5 ⟨rfl, hM5, hW5⟩)
        | (go_at_call 8; refine (awake_any _).mono ?_; rintro e w6 ⟨rfl, hW6⟩))
      go_ret
      exact ⟨rfl, ((((hW1.one hW2 hbw).one hW3 hbw).one hW5 hbw).nil hW6).law⟩
    · rw [if_neg h2] at cl2
      rw [decide_eq_false h2] at cb2
      have t2 : (a0_2 == a0_1) = false := by simp [h2]
      clear h1 cl3
      go_enter Try.func7, Try.ntmps7
      go_wp2
      go_quiet (fail)
      go_wp2_with (first
        | (go_at_call 9; refine (new_since (w0 := w) ((((Wrote.refl Nil w).alloc _).drewN _).alloc _) (hs := [1]) (m := 1) (row_one (by simp)) (by decide) (by decide)).mono ?_; rintro e w1 ⟨b, bw, hv, rfl, hM1, hb, hbw, hown, hW1⟩)
        | (go_at_call 18; have c := store_any hM1 0 a0_0 l0 m0; rw [show storeL (List.replicate 1 0) 0 a0_0 = [a0_0] from rfl] at c; with_reducible refine c.mono ?_; rintro e w2 ⟨rfl, hM2, hW2⟩)
        | (go_at_call 19; have c := cas_any hM2 0 a0_1 a0_2 l2 m2; rw [cb1, cl1] at c; with_reducible refine c.mono ?_; rintro e w3 ⟨rfl, hM3, hW3⟩)
        | (go_at_call 16; have c := load_any hM3 0; rw [show loadI [a0_2] 0 = a0_2 from rfl] at c; with_reducible refine c.mono ?_; rintro e w4 ⟨rfl, rfl⟩)
        | (go_at_call 19; have c := cas_any hM3 0 a0_1 a0_3 l3 m3; rw [cb2, cl2] at c; with_reducible refine c.mono ?_; rintro e w5 ⟨rfl, hM5, hW5⟩)
        | (go_at_call 8; refine (awake_any _).mono ?_; rintro e w6 ⟨rfl, hW6⟩))
      go_ret
      exact ⟨ret_bool (by simp [h2]), ((((hW1.one hW2 hbw).one hW3 hbw).one hW5 hbw).nil hW6).law⟩
  · rw [if_neg h1] at cl1 cl3
    rw [decide_eq_false h1] at cb1
    have t1 : (a0_0 == a0_1) = false := by simp [h1]
    clear h1 cl2 cb2
    go_enter Try.func7, Try.ntmps7
    go_wp2
    go_quiet (fail)
    go_wp2_with (first
      | (go_at_call 9; refine (new_since (w0 := w) ((((Wrote.refl Nil w).alloc _).drewN _).alloc _) (hs := [1]) (m := 1) (row_one (by simp)) (by decide) (by decide)).mono ?_; rintro e w1 ⟨b, bw, hv, rfl, hM1, hb, hbw, hown, hW1⟩)
      | (go_at_call 18; have c := store_any hM1 0 a0_0 l0 m0; rw [show storeL (List.replicate 1 0) 0 a0_0 = [a0_0] from rfl] at c; with_reducible refine c.mono ?_; rintro e w2 ⟨rfl, hM2, hW2⟩)
      | (go_at_call 19; have c := cas_any hM2 0 a0_1 a0_2 l2 m2; rw [cb1, cl1] at c; with_reducible refine c.mono ?_; rintro e w3 ⟨rfl, hM3, hW3⟩)
      | (go_at_call 16; have c := load_any hM3 0; rw [show loadI [a0_0] 0 = a0_0 from rfl] at c; with_reducible refine c.mono ?_; rintro e w4 ⟨rfl, rfl⟩)
      | (go_at_call 19; have c := cas_any hM3 0 a0_1 a0_3 l3 m3; rw [cb1, cl3] at c; with_reducible refine c.mono ?_; rintro e w5 ⟨rfl, hM5, hW5⟩)
      | (go_at_call 8; refine (awake_any _).mono ?_; rintro e w6 ⟨rfl, hW6⟩))
    go_ret
    exact ⟨rfl, ((((hW1.one hW2 hbw).one hW3 hbw).one hW5 hbw).nil hW6).law⟩

/-! the row -/
set_option maxRecDepth 100000 in
theorem lifted (os : Os) (started : os.Started) (H : Type) (enc : TypeId × Value → H) :
    ReturnsInHanded {} Try.checked os 7 .any (Rows.memCasSpec.pre6 enc Try.prog Try.f7 Rows.memCasRow.domain false) (Rows.memCasSpec.post enc Try.prog Try.f7 false true false false) := by
  refine returnsInHanded_of_change (C := Try.checked) own started (by kernel_rfl) Try.func7
    (ChangeSpec.witness6 (enc := enc) (C := Try.checked) false ⟨#[], #[.agg #[.int .u32 0, .int .u32 0, .int .u32 0, .int .u32 0]], []⟩ 8 (by kernel_rfl) (by kernel_rfl) (by kernel_rfl) (by kernel_rfl)) ?_
  intro W base args ds gs before hval0 hW hcnd _
  have hval : ∀ (j : Nat) t v, Try.f7.params[j]? = some t → args[j]? = some v → Value.okWide Try.prog W .any base t v := hval0
  have hW' := hW
  obtain ⟨p, q, hA0, hV, rfl, hfz, hnd⟩ := hW
  have hA : DataW.TrodAll enc Try.prog W 0 (fun _ => true) true Try.f7.params.toList args.toList ds p := hA0
  rw [Try.params7] at hA hval
  obtain ⟨v0, vs0, d0, ds0, p0, q0, hargs, rfl, rfl, h0, r0'⟩ := trodAll_cons hA
  obtain ⟨rfl, rfl, rfl⟩ := trodAll_nil r0'
  obtain rfl : args = #[v0] := by cases args; simp_all
  obtain ⟨rfl, rfl⟩ := trodVars_none hV
  have k0 := h0
  have lt0 : ∀ x ∈ p0, x.block < W.heap.size := by obtain ⟨m, hm⟩ := k0; exact DataW.trod_lt m _ _ _ hm
  obtain ⟨zs0, rfl, hl0, hz0⟩ := open_struct_list (ks := [.u32, .u32, .u32, .u32]) Try.underlying51 (by kernel_rfl) (by kernel_rfl) (hval 0 51 v0 rfl rfl) h0
  obtain ⟨a0_0, a0_1, a0_2, a0_3, rfl⟩ := list4 hl0
  clear hA0 hval0
  refine (walk a0_0 a0_1 a0_2 a0_3 W (hz0 0 _ rfl) (hz0 1 _ rfl) (hz0 2 _ rfl) (hz0 3 _ rfl)).mono fun e W' ⟨he, bel⟩ => ?_
  subst he
  exact ⟨_, rfl, _, _, _, [], _, [], hW', trodAll_mk1 (shut_bool Try.underlying4 _), (trodAll_cons_mk (Below.trod laidOut (by kernel_rfl) (of_decide_eq_true (by kernel_rfl)) k0 bel lt0) trodAll_mk0), rfl, bel.frame _, fun h => by cases h⟩

theorem over : Rows.memCasRow.holds Try.pinned (OpenSpec.ofChange Rows.memCasSpec) :=
  OpenClaim.holds_of_wide 7 Try.f7 rfl rfl rfl rfl rfl rfl rfl ⟨rfl, rfl, rfl, rfl, rfl⟩ rfl rfl rfl rfl rfl (by kernel_rfl) Try.func7 (by kernel_rfl)
    (of_decide_eq_true (by kernel_rfl)) (by unfold Func.isWrapper; first | (rw [if_pos (by decide +kernel)]; kernel_rfl) | (rw [if_neg (by decide +kernel)]; exact ⟨rfl, rfl⟩))
    (fun os started H enc _ => lifted os started H enc)

/-- the statement -/
theorem proved : Rows.MemCasSaid := over
#print axioms proved
end Go.Proofs.Ytfokhndlggogeaa.memCas
