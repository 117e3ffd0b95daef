/- For every input the Go function EventDecodes of weighlocklaw07 returns true, and its arguments read afterwards as before. Conditions: none. -/
import Derived.Test.YtpmceoifppnnbaaRows
import Derived.WalkKit
import Derived.ProofKit
import Derived.OpenShut
import Derived.ChangeOld
import Derived.Below
import Derived.Carry
import Derived.Deep.RegionHeld3
import Derived.Test.YtpmceoifppnnbaaEventLaw
import Derived.Test.YtpmceoifppnnbaaEventRef
import Derived.Test.YtpmceoifppnnbaaEventEnc
namespace Go.Proofs.Ytpmceoifppnnbaa.eventDecodes
open Go.ChangeShapes Go.WideShapes Go.ChangeAt Go.RowKit
set_option linter.unusedVariables false

theorem own : ownKnob Try.prog.godebug = none := by kernel_rfl
theorem laidOut : laidOutB Try.prog = true := by kernel_rfl

/-! the walk -/
structure EdSt (w0 w : World) (n : Nat) (D : List Ev) (sa sb : Option Addr) : Prop where
  a : RecsAt evCells 3 w sa n D
  b : RecsAt evCells 3 w sb n D
  wrote : Wrote Nil w0 w
theorem EdSt.after {w0 w w' : World} {n : Nat} {D : List Ev} {sa sb : Option Addr} (h : EdSt w0 w n D sa sb) (k : Wrote Nil w w') : EdSt w0 w' n D sa sb := ⟨h.a.after k, h.b.after k, h.wrote.nil k⟩

set_option maxHeartbeats 1000000 in
theorem walk (s0 : Option Addr) (len0 cap0 : Nat) (z0 : List Int) (w : World) (l0 : len0 ≤ cap0 ∧ cap0 ≤ maxLen ∧ (s0 = none → cap0 = 0)) (r0 : RowAt .u8 w s0 len0 z0) (w0 : ∀ z ∈ z0, (Lit.int .u8 z).wf = true) :
    Calls Try.prog 3 #[.slice s0 len0 cap0] w fun e w' => e = .returned (.bool true) ∧ Below w.heap.size w w' := by
  have hcap := l0.1
  have hB := wf_bytes w0
  have hlen := r0.len
  clear w0 l0
  by_cases hbig : 300 < len0
  · clear r0 hB hlen
    go_enter Try.func3, Try.ntmps3
    go_wp2_with (go_at_call 6; refine (awake_any _).mono ?_; rintro e w6 ⟨rfl, hW6⟩)
    go_ret
    exact ⟨rfl, hW6.law⟩
  have c1 : Calls Try.prog 7 #[.slice s0 len0 cap0] w (DecPost w z0) := dec_any r0 hB (by omega) hcap
  obtain ⟨D, hD⟩ : ∃ D, D = evs z0 := ⟨_, rfl⟩
  obtain ⟨n, hn⟩ : ∃ n, n = D.length := ⟨_, rfl⟩
  have hnl : n ≤ 300 := by have := evs_len z0; rw [hn, hD]; omega
  have hR : ∀ x ∈ D, rightE x = true := by rw [hD]; exact evs_right z0 hB
  unfold DecPost at c1
  rw [← hD, ← hn] at c1
  obtain ⟨str, hstr⟩ : ∃ s, s = strOfNums z0 := ⟨_, rfl⟩
  have c2 : ∀ W, Calls Try.prog 8 #[.string str] W fun e w' => ∃ sa cap, e = .returned (.slice sa n cap) ∧ RecsAt evCells 3 w' sa n D ∧ Wrote Nil W w' := fun W => by
    have h := rec_any (w := W) hB str hstr (by omega)
    unfold RecPost at h
    rw [← hD, ← hn] at h
    exact h
  have hbig' : decide ((300 : Int) < len0) = false := by simp; omega
  have HR := Lib.hid (And.intro r0 (And.intro hB (And.intro hR (And.intro hn hstr))))
  clear r0 hB hlen hD hR hn hstr hbig
  go_enter Try.func3, Try.ntmps3
  go_wp2_with (first
    | (go_at_call 7; with_reducible refine c1.mono ?_; rintro e w1 ⟨sa, ca, rfl, ha, hW1⟩; have hcv : (convert 22 9 (.slice s0 len0 cap0)).run Try.prog w1 = .ok (.string str) w1 := (by rw [HR.out.2.2.2.2]; exact conv_str (HR.out.1.after hW1)); have HA := Lib.hid (And.intro ha hW1); clear ha hW1)
    | (go_at_call 8; with_reducible refine (c2 _).mono ?_; rintro e w2 ⟨sb, cb, rfl, hb, hW2⟩; have HB := Lib.hid (And.intro hb hW2); clear hb hW2))
  have hE : EdSt w w2 n D sa sb := ⟨HA.out.1.after HB.out.2, HB.out.1, HA.out.2.nil HB.out.2⟩
  clear HA HB c1 c2 hcv
  go_loopw [23] (fun iv wr => ∃ k : Nat, k ≤ n ∧ iv = .int .i64 k ∧ EdSt w wr n D sa sb) (fun iv _ => n - (intOf iv).toNat)
  case atStart => exact ⟨0, Nat.zero_le _, rfl, hE⟩
  case round =>
    clear hE
    obtain ⟨k, hk, rfl, hE⟩ := hrel
    by_cases hlt : k < n
    · rcases hE.a.at ev_ne with h0 | ⟨ba, oa, rfl, ha⟩
      · omega
      rcases hE.b.at ev_ne with h0 | ⟨bb, ob, rfl, hb⟩
      · omega
      obtain ⟨⟨x0, x1, x2⟩, hx⟩ : ∃ x, D[k]? = some x := ⟨D[k]'(by have := HR.out.2.2.2.1; omega), List.getElem?_eq_getElem _⟩
      have e0 : wr.cell? ⟨ba, oa + k * 3, none⟩ = some (.int .i64 x0) := ha k _ hx 0 _ rfl
      have e1 : wr.cell? ⟨ba, oa + k * 3 + 1, none⟩ = some (.int .i64 x1) := ha k _ hx 1 _ rfl
      have e2 : wr.cell? ⟨ba, oa + k * 3 + 2, none⟩ = some (.int .i64 x2) := ha k _ hx 2 _ rfl
      have f0 : wr.cell? ⟨bb, ob + k * 3, none⟩ = some (.int .i64 x0) := hb k _ hx 0 _ rfl
      have f1 : wr.cell? ⟨bb, ob + k * 3 + 1, none⟩ = some (.int .i64 x1) := hb k _ hx 1 _ rfl
      have f2 : wr.cell? ⟨bb, ob + k * 3 + 2, none⟩ = some (.int .i64 x2) := hb k _ hx 2 _ rfl
      have c3 : ∀ W, Calls Try.prog 9 #[.agg #[.int .i64 x0, .int .i64 x1, .int .i64 x2]] W fun e w' => e = .returned (.bool true) ∧ Wrote Nil W w' := fun W => by
        have h := ev_right W x0 x1 x2
        rw [HR.out.2.2.1 _ (List.mem_of_getElem? hx)] at h
        exact h
      have hWX : Wrote Nil wr (wr.alloc (.cells #[.int .i64 x0, .int .i64 x1, .int .i64 x2] 29)) := (Wrote.refl _ _).alloc _
      have HE := Lib.hid (And.intro hE (And.intro hx hWX))
      clear hE hx ha hb hWX
      go_wp2
      have g0 : (wr.alloc (.cells #[.int .i64 x0, .int .i64 x1, .int .i64 x2] 29)).cell? ⟨wr.heap.size, 0, none⟩ = some (.int .i64 x0) := by simp
      have g1 : (wr.alloc (.cells #[.int .i64 x0, .int .i64 x1, .int .i64 x2] 29)).cell? ⟨wr.heap.size, 1, none⟩ = some (.int .i64 x1) := by simp
      have g2 : (wr.alloc (.cells #[.int .i64 x0, .int .i64 x1, .int .i64 x2] 29)).cell? ⟨wr.heap.size, 2, none⟩ = some (.int .i64 x2) := by simp
      have f0 := HE.out.2.2.old f0
      have f1 := HE.out.2.2.old f1
      have f2 := HE.out.2.2.old f2
      have hE2 := HE.out.1.after HE.out.2.2
      have hq : wr.heap.size = wr.heap.size := rfl
      generalize wr.heap.size = q at g0 g1 g2 ⊢
      generalize wr.alloc (.cells #[.int .i64 x0, .int .i64 x1, .int .i64 x2] 29) = X at g0 g1 g2 f0 f1 f2 hE2 ⊢
      have HE2 := Lib.hid hE2
      clear hE2 HE e0 e1 e2 hq
      go_region_held3 (fun w' => w'.cell? ⟨q, 0, none⟩ = some (.int .i64 x0) ∧ w'.cell? ⟨q, 1, none⟩ = some (.int .i64 x1) ∧ w'.cell? ⟨q, 2, none⟩ = some (.int .i64 x2) ∧ w'.cell? ⟨bb, ob + k * 3, none⟩ = some (.int .i64 x0) ∧ w'.cell? ⟨bb, ob + k * 3 + 1, none⟩ = some (.int .i64 x1) ∧ w'.cell? ⟨bb, ob + k * 3 + 2, none⟩ = some (.int .i64 x2)) (first | exact ⟨g0, g1, g2, f0, f1, f2⟩ | go_keep)
        (first | (go_at_call 9; (with_reducible refine (c3 _).mono ?_); rintro e w3 ⟨rfl, hW4⟩; have hW3 := ((Wrote.refl Nil X).drew).nil hW4; have g0 := hW3.old g0; have g1 := hW3.old g1; have g2 := hW3.old g2; have f0 := hW3.old f0; have f1 := hW3.old f1; have f2 := hW3.old f2; have HW3 := Lib.hid hW3; clear hW3 hW4))
      all_goals
        go_wp2
        go_roundw
        case rel => exact ⟨k + 1, by omega, by go_num, HE2.out.after HW3.out⟩
        case measure => simp [intOf]; omega
    · clear hbig'
      have hW := hE.wrote
      have HW := Lib.hid hW
      clear hE hW
      go_wp2_with (go_at_call 6; refine (awake_any _).mono ?_; rintro e w6 ⟨rfl, hW6⟩)
      go_ret
      exact ⟨rfl, (HW.out.nil hW6).law⟩

/-! the row -/
set_option maxRecDepth 100000 in
theorem lifted (os : Os) (started : os.Started) (H : Type) (enc : TypeId × Value → H) :
    ReturnsInHanded {} Try.checked os 3 .any (Rows.eventDecodesSpec.pre6 enc Try.prog Try.f3 Rows.eventDecodesRow.domain false) (Rows.eventDecodesSpec.post enc Try.prog Try.f3 false true false false) := by
  refine returnsInHanded_of_change (C := Try.checked) own started (by kernel_rfl) Try.func3
    (ChangeSpec.witness6 (enc := enc) (C := Try.checked) false ⟨#[], #[.slice none 0 0], []⟩ 8 (by kernel_rfl) (by kernel_rfl) (by kernel_rfl) (by kernel_rfl)) ?_
  intro W base args ds gs before hval0 hW hcnd _
  have hval : ∀ (j : Nat) t v, Try.f3.params[j]? = some t → args[j]? = some v → Value.okWide Try.prog W .any base t v := hval0
  have hW' := hW
  obtain ⟨p, q, hA0, hV, rfl, hfz, hnd⟩ := hW
  have hA : DataW.TrodAll enc Try.prog W 0 (fun _ => true) true Try.f3.params.toList args.toList ds p := hA0
  rw [Try.params3] at hA hval
  obtain ⟨v0, vs0, d0, ds0, p0, q0, hargs, rfl, rfl, h0, r0'⟩ := trodAll_cons hA
  obtain ⟨rfl, rfl, rfl⟩ := trodAll_nil r0'
  obtain rfl : args = #[v0] := by cases args; simp_all
  obtain ⟨rfl, rfl⟩ := trodVars_none hV
  have k0 := h0
  have lt0 : ∀ x ∈ p0, x.block < W.heap.size := by obtain ⟨m, hm⟩ := k0; exact DataW.trod_lt m _ _ _ hm
  obtain ⟨s0, len0, cap0, rfl⟩ := okWide_slice Try.underlying22 (hval 0 22 v0 rfl rfl)
  obtain ⟨l0, z0, r0, w0⟩ := open_slice_row Try.underlying22 Try.underlying5 (by kernel_rfl) h0
  clear hA0 hval0
  refine (walk s0 len0 cap0 z0 W l0 r0 w0).mono fun e W' ⟨he, bel⟩ => ?_
  subst he
  exact ⟨_, rfl, _, _, _, [], _, [], hW', trodAll_mk1 (shut_bool Try.underlying4 _), (trodAll_cons_mk (Below.trod laidOut (by kernel_rfl) (of_decide_eq_true (by kernel_rfl)) k0 bel lt0) trodAll_mk0), rfl, bel.frame _, fun h => by cases h⟩

theorem over : Rows.eventDecodesRow.holds Try.pinned (OpenSpec.ofChange Rows.eventDecodesSpec) :=
  OpenClaim.holds_of_wide 3 Try.f3 rfl rfl rfl rfl rfl rfl rfl ⟨rfl, rfl, rfl, rfl, rfl⟩ rfl rfl rfl rfl rfl (by kernel_rfl) Try.func3 (by kernel_rfl)
    (of_decide_eq_true (by kernel_rfl)) (by unfold Func.isWrapper; first | (rw [if_pos (by decide +kernel)]; kernel_rfl) | (rw [if_neg (by decide +kernel)]; exact ⟨rfl, rfl⟩))
    (fun os started H enc _ => lifted os started H enc)

/-- the statement -/
theorem proved : Rows.EventDecodesSaid := over
#print axioms proved
end Go.Proofs.Ytpmceoifppnnbaa.eventDecodes
