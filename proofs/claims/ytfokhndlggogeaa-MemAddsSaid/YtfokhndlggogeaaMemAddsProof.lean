/- For every input the Go function MemAdds of weighlocklaw02 returns true, and its arguments read afterwards as before. Conditions: none. -/
import Derived.Test.YtfokhndlggogeaaRows
import Derived.WalkKit
import Derived.ProofKit
import Derived.OpenShut
import Derived.ChangeOld
import Derived.Below
import Derived.Carry
import Derived.Test.YtfokhndlggogeaaMemLaw
namespace Go.Proofs.Ytfokhndlggogeaa.memAdds
open Go.ChangeShapes Go.WideShapes Go.ChangeAt Go.RowKit
set_option linter.unusedVariables false

theorem own : ownKnob Try.prog.godebug = none := by kernel_rfl
theorem laidOut : laidOutB Try.prog = true := by kernel_rfl

/-! the walk -/
set_option maxHeartbeats 1000000 in
theorem walk (s0 : Option Addr) (len0 cap0 : Nat) (z0 : List Int) (w : World) (l0 : len0 ≤ cap0 ∧ cap0 ≤ maxLen ∧ (s0 = none → cap0 = 0)) (r0 : RowAt .u32 w s0 len0 z0) (w0 : ∀ z ∈ z0, (Lit.int .u32 z).wf = true) :
    Calls Try.prog 5 #[.slice s0 len0 cap0] w fun e w' => e = .returned (.bool true) ∧ Below w.heap.size w w' := by
  have hat := r0.at
  have hml : len0 ≤ 9223372036854775807 := by have := l0.1; have := l0.2.1; unfold maxLen at this; omega
  have hwf : ∀ j, 0 ≤ z0.getD j 0 ∧ z0.getD j 0 < 4294967296 := by
    intro j
    by_cases hj : j < z0.length
    · have e : z0.getD j 0 = z0[j] := by simp [hj]
      rw [e]
      exact u32_bd (w0 _ (List.getElem_mem hj))
    · simp [List.getElem?_eq_none (show z0.length ≤ j by omega)]
  clear r0 w0 l0
  by_cases hbig : 60 < len0
  · go_enter Try.func5, Try.ntmps5
    go_wp2_with (first
      | (go_at_call 9; refine (new_since (w0 := w) ((Wrote.refl Nil w).alloc _) (hs := [3]) (m := 1) (row_one (by simp)) (by decide) (by decide)).mono ?_; rintro e w1 ⟨b, bw, hv, rfl, hM1, hb, hbw, hown, hW1⟩)
      | (go_at_call 8; refine (awake_any _).mono ?_; rintro e w6 ⟨rfl, hW6⟩))
    go_ret
    exact ⟨rfl, (hW1.nil hW6).law⟩
  · go_enter Try.func5, Try.ntmps5
    go_wp2_with (first
      | (go_at_call 9; refine (new_since (w0 := w) ((Wrote.refl Nil w).alloc _) (hs := [3]) (m := 1) (row_one (by simp)) (by decide) (by decide)).mono ?_; rintro e w1 ⟨b, bw, hv, rfl, hM1, hb, hbw, hown, hW1⟩))
    go_loopw [35, 5] (fun i s wr => ∃ (k : Nat) (x : Int), k ≤ len0 ∧ i = .int .i64 k ∧ s = .int .u32 x ∧ MemAt wr b bw hv [3] [x] ∧ Wrote Nil w wr) (fun i _ _ => len0 - (intOf i).toNat)
    case atStart => exact ⟨0, 0, Nat.zero_le _, rfl, rfl, hM1, hW1⟩
    case round =>
      obtain ⟨k, x, hk, rfl, rfl, hM, hW⟩ := hrel
      by_cases hlt : k < len0
      · rcases hat with h0 | ⟨rb, ro, rfl, hcell⟩
        · omega
        · obtain ⟨d, hd⟩ : ∃ d, d = z0.getD k 0 := ⟨_, rfl⟩
          have hc := hW.old (hcell k hlt)
          rw [← hd] at hc
          have hdr : 0 ≤ d ∧ d < 4294967296 := by rw [hd]; exact hwf k
          obtain ⟨d0, d1⟩ := hdr
          have HH := Lib.hid (And.intro hcell hd)
          clear hcell hd
          go_wp2_with (go_at_call 17; have c := add_any hM 0 d d0 d1; rw [show loadI [x] 0 = x from rfl, show addL [x] 0 d = [(x + d) % 4294967296] from rfl] at c; with_reducible refine c.mono ?_; rintro e w2 ⟨rfl, hM2, hW2⟩)
          go_roundw
          case rel => exact ⟨k + 1, (x + d) % 4294967296, by omega, by go_num, by go_num, hM2, hW.one hW2 hbw⟩
          case measure => simp [intOf]; omega
      · go_wp2_with (first
          | (go_at_call 16; have c := load_any hM 0; rw [show loadI [x] 0 = x from rfl] at c; with_reducible refine c.mono ?_; rintro e w4 ⟨rfl, rfl⟩)
          | (go_at_call 8; refine (awake_any _).mono ?_; rintro e w6 ⟨rfl, hW6⟩))
        go_ret
        exact ⟨rfl, (hW.nil hW6).law⟩

/-! the row -/
set_option maxRecDepth 100000 in
theorem lifted (os : Os) (started : os.Started) (H : Type) (enc : TypeId × Value → H) :
    ReturnsInHanded {} Try.checked os 5 .any (Rows.memAddsSpec.pre6 enc Try.prog Try.f5 Rows.memAddsRow.domain false) (Rows.memAddsSpec.post enc Try.prog Try.f5 false true false false) := by
  refine returnsInHanded_of_change (C := Try.checked) own started (by kernel_rfl) Try.func5
    (ChangeSpec.witness6 (enc := enc) (C := Try.checked) false ⟨#[], #[.slice none 0 0], []⟩ 8 (by kernel_rfl) (by kernel_rfl) (by kernel_rfl) (by kernel_rfl)) ?_
  intro W base args ds gs before hval0 hW hcnd _
  have hval : ∀ (j : Nat) t v, Try.f5.params[j]? = some t → args[j]? = some v → Value.okWide Try.prog W .any base t v := hval0
  have hW' := hW
  obtain ⟨p, q, hA0, hV, rfl, hfz, hnd⟩ := hW
  have hA : DataW.TrodAll enc Try.prog W 0 (fun _ => true) true Try.f5.params.toList args.toList ds p := hA0
  rw [Try.params5] at hA hval
  obtain ⟨v0, vs0, d0, ds0, p0, q0, hargs, rfl, rfl, h0, r0'⟩ := trodAll_cons hA
  obtain ⟨rfl, rfl, rfl⟩ := trodAll_nil r0'
  obtain rfl : args = #[v0] := by cases args; simp_all
  obtain ⟨rfl, rfl⟩ := trodVars_none hV
  have k0 := h0
  have lt0 : ∀ x ∈ p0, x.block < W.heap.size := by obtain ⟨m, hm⟩ := k0; exact DataW.trod_lt m _ _ _ hm
  obtain ⟨s0, len0, cap0, rfl⟩ := okWide_slice Try.underlying30 (hval 0 30 v0 rfl rfl)
  obtain ⟨l0, z0, r0, w0⟩ := open_slice_row Try.underlying30 Try.underlying31 (by kernel_rfl) h0
  clear hA0 hval0
  refine (walk s0 len0 cap0 z0 W l0 r0 w0).mono fun e W' ⟨he, bel⟩ => ?_
  subst he
  exact ⟨_, rfl, _, _, _, [], _, [], hW', trodAll_mk1 (shut_bool Try.underlying4 _), (trodAll_cons_mk (Below.trod laidOut (by kernel_rfl) (of_decide_eq_true (by kernel_rfl)) k0 bel lt0) trodAll_mk0), rfl, bel.frame _, fun h => by cases h⟩

theorem over : Rows.memAddsRow.holds Try.pinned (OpenSpec.ofChange Rows.memAddsSpec) :=
  OpenClaim.holds_of_wide 5 Try.f5 rfl rfl rfl rfl rfl rfl rfl ⟨rfl, rfl, rfl, rfl, rfl⟩ rfl rfl rfl rfl rfl (by kernel_rfl) Try.func5 (by kernel_rfl)
    (of_decide_eq_true (by kernel_rfl)) (by unfold Func.isWrapper; first | (rw [if_pos (by decide +kernel)]; kernel_rfl) | (rw [if_neg (by decide +kernel)]; exact ⟨rfl, rfl⟩))
    (fun os started H enc _ => lifted os started H enc)

/-- the statement -/
theorem proved : Rows.MemAddsSaid := over
#print axioms proved
end Go.Proofs.Ytfokhndlggogeaa.memAdds
