/- For every input the Go function EventParts of weighlocklaw07 returns true, and its arguments read afterwards as before. Conditions: none. -/
import Derived.Test.YtpmceoifppnnbaaRows
import Derived.WalkKit
import Derived.ProofKit
import Derived.OpenShut
import Derived.ChangeOld
import Derived.Below
import Derived.Carry
import Derived.Test.YtpmceoifppnnbaaEventLaw
import Derived.Test.YtpmceoifppnnbaaEventRef
import Derived.Test.YtpmceoifppnnbaaEventEnc
namespace Go.Proofs.Ytpmceoifppnnbaa.eventParts
open Go.ChangeShapes Go.WideShapes Go.ChangeAt Go.RowKit Go.BigFrame
set_option linter.unusedVariables false

theorem own : ownKnob Try.prog.godebug = none := by kernel_rfl
theorem laidOut : laidOutB Try.prog = true := by kernel_rfl

/-! the walk -/
def trip (z0 : Nat → Nat → Int) (i : Nat) : Ev := (z0 i 0, z0 i 1, z0 i 2)
theorem recs_in {w : World} {sa : Option Addr} {n : Nat} {z0 : Nat → Nat → Int} (h : Structs w [.i64, .i64, .i64] sa n z0) : RecsAt evCells 3 w sa n ((List.range n).map (trip z0)) :=
  h.recs (trip z0) fun i hi j u hu => by
    have hj : j < 3 := (List.getElem?_eq_some_iff.1 hu).1
    have : j = 0 ∨ j = 1 ∨ j = 2 := by omega
    rcases this with rfl | rfl | rfl
    all_goals
      simp only [evCells, trip] at hu
      exact ⟨_, rfl, (Option.some.inj hu).symm⟩

theorem cells_at {b o : Nat} {w : World} {D : List Ev} (hc : ∀ (k : Nat) (x : Ev), D[k]? = some x → ∀ (j : Nat) (u : Value), (evCells x)[j]? = some u → w.cell? ⟨b, o + (k * 3 + j), none⟩ = some u) {k : Nat} {x0 x1 x2 : Int} (hx : D[k]? = some (x0, x1, x2)) :
    w.cell? ⟨b, o + k * 3, none⟩ = some (.int .i64 x0) ∧ w.cell? ⟨b, o + k * 3 + 1, none⟩ = some (.int .i64 x1) ∧ w.cell? ⟨b, o + k * 3 + 2, none⟩ = some (.int .i64 x2) :=
  ⟨hc k _ hx 0 _ rfl, hc k _ hx 1 _ rfl, hc k _ hx 2 _ rfl⟩

/-- within the last loop: the events of both, those of the one and those of the other -/
structure EpSt (w0 w : World) (D R : List Ev) (s0 sk sr : Option Addr) (n r : Nat) : Prop where
  whole : RecsAt evCells 3 w sk (n + r) (D ++ R)
  rest : RecsAt evCells 3 w sr r R
  one : RecsAt evCells 3 w s0 n D
  wrote : Wrote Nil w0 w
theorem EpSt.after {w0 w w' : World} {D R : List Ev} {s0 sk sr : Option Addr} {n r : Nat} (h : EpSt w0 w D R s0 sk sr n r) (k : Wrote Nil w w') : EpSt w0 w' D R s0 sk sr n r := ⟨h.whole.after k, h.rest.after k, h.one.after k, h.wrote.nil k⟩

set_option maxRecDepth 100000 in
set_option maxHeartbeats 2000000 in
theorem walk (s0 : Option Addr) (len0 cap0 : Nat) (z0 : Nat → Nat → Int) (s1 : Option Addr) (len1 cap1 : Nat) (z1 : List Int) (w : World) (l0 : len0 ≤ cap0 ∧ cap0 ≤ maxLen ∧ (s0 = none → cap0 = 0)) (r0 : Structs w [.i64, .i64, .i64] s0 len0 z0) (l1 : len1 ≤ cap1 ∧ cap1 ≤ maxLen ∧ (s1 = none → cap1 = 0)) (r1 : RowAt .u8 w s1 len1 z1) (w1 : ∀ z ∈ z1, (Lit.int .u8 z).wf = true) :
    Calls Try.prog 5 #[.slice s0 len0 cap0, .slice s1 len1 cap1] w fun e w' => e = .returned (.bool true) ∧ Below w.heap.size w w' := by
  obtain ⟨i0, hi, hz0, hz1, hz2⟩ := info_parts3 info_u8
  have r2 := recs_in r0
  obtain ⟨D, hD⟩ : ∃ D, D = (List.range len0).map (trip z0) := ⟨_, rfl⟩
  rw [← hD] at r2
  have hl := r2.len
  have hB := wf_bytes w1
  have hcap1 := l1.1
  have hnil1 := l1.2.2
  clear hD r0 l0 w1 l1
  by_cases hbig : 100 < len0
  · clear r1 r2 hl hB
    have hbig' : decide ((100 : Int) < len0) = true := by simp; omega
    go_enter Try.func5, Try.ntmps5
    go_wp2_with (go_at_call 6; (with_reducible refine (awake_any _).mono ?_); rintro e w6 ⟨rfl, hW6⟩)
    go_ret
    exact ⟨rfl, hW6.law⟩
  have hbig' : decide ((100 : Int) < len0) = false := by simp; omega
  by_cases hbig1 : 100 < len1
  · clear r1 r2 hl hB
    have hbig2 : decide ((100 : Int) < len1) = true := by simp; omega
    go_enter Try.func5, Try.ntmps5
    go_wp2_with (go_at_call 6; (with_reducible refine (awake_any _).mono ?_); rintro e w6 ⟨rfl, hW6⟩)
    go_ret
    exact ⟨rfl, hW6.law⟩
  have hbig2 : decide ((100 : Int) < len1) = false := by simp; omega
  have hn0 : len0 ≤ 100 := by omega
  have hn1 : len1 ≤ 100 := by omega
  have c1 := ev_encode (cap := cap0) r2 (by omega)
  clear hbig hbig1
  by_cases hall : badAt D = D.length
  · have c2 : Calls Try.prog 10 #[.slice s0 len0 cap0] w fun e w' => ∃ sb cb, e = .returned (.tuple #[.slice sb (encs D).length cb, .int .i64 (len0 : Nat), .int .i64 0]) ∧ Grow 5 1 w w.heap.size w' (encs D).length ((encs D).map (Value.int .u8)) (.slice sb (encs D).length cb) := c1.mono fun e w' h => by
      rcases h with ⟨_, dv, rfl, hG⟩ | ⟨h, _⟩
      · obtain ⟨so, cp, rfl⟩ := hG.form
        exact ⟨so, cp, by rw [hl], hG⟩
      · omega
    obtain ⟨m, hm⟩ : ∃ m, m = (encs D).length := ⟨_, rfl⟩
    obtain ⟨V, hV⟩ : ∃ V, V = (encs D).map (Value.int .u8) := ⟨_, rfl⟩
    obtain ⟨r, hr⟩ : ∃ r, r = (evs z1).length := ⟨_, rfl⟩
    have hm4 : m ≤ 200 := by have := encs_len D; omega
    have hr1 : r ≤ 100 := by have := evs_len z1; have := r1.len; omega
    have hb1 := encs_bytes D (badAt_all hall)
    have hev : evs (encs D ++ z1) = D ++ evs z1 := evs_encs D (badAt_all hall) z1
    have c3 : ∀ (W : World) (sv : Option Addr) (cv : Nat), RowAt .u8 W sv (m + len1) (encs D ++ z1) → m + len1 ≤ cv → Calls Try.prog 7 #[.slice sv (m + len1) cv] W fun e w' => ∃ sa cap, e = .returned (.slice sa (len0 + r) cap) ∧ RecsAt evCells 3 w' sa (len0 + r) (D ++ evs z1) ∧ Wrote Nil W w' := fun W sv cv h hc => by
      have h2 := dec_any h (bytes_append hb1 hB) (by omega) hc
      unfold DecPost at h2
      rw [hev, List.length_append, hl, ← hr] at h2
      exact h2
    have c4 : ∀ W, Wrote Nil w W → Calls Try.prog 7 #[.slice s1 len1 cap1] W fun e w' => ∃ sa cap, e = .returned (.slice sa r cap) ∧ RecsAt evCells 3 w' sa r (evs z1) ∧ Wrote Nil W w' := fun W hW => by
      have h2 := dec_any (r1.after hW) hB (by omega) hcap1
      unfold DecPost at h2
      rw [← hr] at h2
      exact h2
    rw [← hm, ← hV] at c2
    have HR := Lib.hid (And.intro r2 (And.intro r1 (And.intro hl (And.intro hm (And.intro hV (And.intro c3 c4))))))
    have HH := Lib.hid (And.intro hnil1 hr)
    clear c1 r1 r2 hl hB hall hm hV hr hb1 hev c3 c4 hnil1
    go_enter Try.func5, Try.ntmps5
    go_wp2_with (first
      | (go_at_call 10; (with_reducible refine c2.mono ?_); rintro e w2 ⟨sb, cb, rfl, hG2⟩; have HG2 := Lib.hid hG2; clear hG2)
      | (at_builtin; refine wpList_append_row rfl _ _ 22 rfl w.heap.size 5 i0 (.int .u8 0) 1 Try.underlying22 hi hz0 hz1 hz2 rfl .u8 (.slice sb m cb) m (encs D) rfl (by have h := HG2.out.own; rw [HR.out.2.2.2.2.1] at h; exact h) s1 len1 cap1 z1 rfl (HR.out.2.1.after HG2.out.wrote) HH.out.1 (by unfold maxLen; omega) (by omega) HG2.out.size ?_; intro v' w3 hown hgrow; obtain ⟨sv, cv, rfl, hv1, _, hv2, _⟩ := own_rowAt hown; have hW3 := HG2.out.wrote.grown hgrow (fun k hk hlt => by have := (HG2.out.lt k hk).1; omega); have HV := Lib.hid (And.intro hv2 (And.intro (show m + len1 ≤ cv by omega) hW3)); clear hown hgrow hv1 hv2 hW3)
      | (go_at_call 7; (with_reducible refine (HR.out.2.2.2.2.2.1 _ _ _ HV.out.1 HV.out.2.1).mono ?_); rintro e w4 ⟨sk, ck, rfl, hk4, hW4⟩; have HK := Lib.hid (And.intro hk4 hW4); clear hk4 hW4)
      | (go_at_call 7; (with_reducible refine (HR.out.2.2.2.2.2.2 _ (HV.out.2.2.nil HK.out.2)).mono ?_); rintro e w5 ⟨sr, cr, rfl, hk5, hW5⟩; have HJ := Lib.hid (And.intro hk5 hW5); clear hk5 hW5))
    have hW4 := HV.out.2.2.nil HK.out.2
    have hE : EpSt w w5 D (evs z1) s0 sk sr len0 r := ⟨HK.out.1.after HJ.out.2, HJ.out.1, HR.out.1.after (hW4.nil HJ.out.2), hW4.nil HJ.out.2⟩
    obtain ⟨R, hRR⟩ : ∃ R, R = evs z1 := ⟨_, rfl⟩
    rw [← hRR] at hE
    have HL := Lib.hid (And.intro HR.out.2.2.1 (show R.length = r by rw [hRR]; exact HH.out.2.symm))
    clear hW4 HK HJ HV HG2 c2 HR HH hRR
    go_loopw [46] (fun iv wr => ∃ k : Nat, k ≤ len0 + r ∧ iv = .int .i64 k ∧ EpSt w wr D R s0 sk sr len0 r) (fun iv _ => len0 + r - (intOf iv).toNat)
    case atStart => exact ⟨0, Nat.zero_le _, rfl, hE⟩
    case round =>
      clear hE
      obtain ⟨k, hk, rfl, hE⟩ := hrel
      by_cases hlt : k < len0 + r
      · have hlt' : (k : Int) < (len0 : Int) + r := by omega
        have k0 : (0 : Int) ≤ k := by omega
        rcases hE.whole.at ev_ne with h0 | ⟨b, o, rfl, hc⟩
        · omega
        obtain ⟨⟨x0, x1, x2⟩, hx⟩ : ∃ x, (D ++ R)[k]? = some x := ⟨(D ++ R)[k]'(by rw [List.length_append, HL.out.1, HL.out.2]; exact hlt), List.getElem?_eq_getElem _⟩
        obtain ⟨e0, e1, e2⟩ := cells_at hc hx
        clear hc
        have hWX : Wrote Nil wr (wr.alloc (.cells #[.int .i64 x0, .int .i64 x1, .int .i64 x2] 29)) := (Wrote.refl _ _).alloc _
        by_cases hA : k < len0
        · rcases hE.one.at ev_ne with h0 | ⟨b1, o1, rfl, hc1⟩
          · omega
          have hx1 : D[k]? = some (x0, x1, x2) := by rw [← hx, List.getElem?_append_left (by rw [HL.out.1]; exact hA)]
          obtain ⟨f0, f1, f2⟩ := cells_at hc1 hx1
          have HE := Lib.hid (And.intro hE hWX)
          have hA' : (k : Int) < len0 := by omega
          have hA2 : decide (len0 ≤ k) = false := by simp; omega
          have hA3 : decide (k < len0) = true := by simp; omega
          clear hE hx hc1 hx1 hWX
          go_wp2
          have g0 : (wr.alloc (.cells #[.int .i64 x0, .int .i64 x1, .int .i64 x2] 29)).cell? ⟨wr.heap.size, 0, none⟩ = some (.int .i64 x0) := by simp
          have g1 : (wr.alloc (.cells #[.int .i64 x0, .int .i64 x1, .int .i64 x2] 29)).cell? ⟨wr.heap.size, 1, none⟩ = some (.int .i64 x1) := by simp
          have g2 : (wr.alloc (.cells #[.int .i64 x0, .int .i64 x1, .int .i64 x2] 29)).cell? ⟨wr.heap.size, 2, none⟩ = some (.int .i64 x2) := by simp
          have f0 := HE.out.2.old f0
          have f1 := HE.out.2.old f1
          have f2 := HE.out.2.old f2
          have hE2 := HE.out.1.after HE.out.2
          generalize wr.heap.size = q at g0 g1 g2 ⊢
          generalize wr.alloc (.cells #[.int .i64 x0, .int .i64 x1, .int .i64 x2] 29) = X at g0 g1 g2 f0 f1 f2 hE2 ⊢
          have HE2 := Lib.hid hE2
          clear hE2 HE e0 e1 e2
          go_big_quiet (fail)
          go_wp2
          go_roundw
          case rel => exact ⟨k + 1, by omega, by go_num, HE2.out.after ((Wrote.refl Nil X).drewN _)⟩
          case measure => simp [intOf]; omega
        · obtain ⟨j, hj⟩ : ∃ j, k = len0 + j := ⟨k - len0, by omega⟩
          have hjr : j < r := by omega
          rcases hE.rest.at ev_ne with h0 | ⟨b1, o1, rfl, hc1⟩
          · omega
          have hx1 : R[j]? = some (x0, x1, x2) := by rw [← hx, List.getElem?_append_right (by rw [HL.out.1]; omega), HL.out.1, hj, Nat.add_sub_cancel_left]
          obtain ⟨f0, f1, f2⟩ := cells_at hc1 hx1
          have HE := Lib.hid (And.intro hE hWX)
          have hA2 : decide (len0 ≤ k) = true := by simp; omega
          have hA3 : decide (k < len0) = false := by simp; omega
          have j0 : (0 : Int) ≤ j := by omega
          have j1 : (j : Int) < r := by omega
          have hs1 : (k : Int) - len0 = j := by omega
          have hs2 : IntKind.i64.wrap ((k : Int) - len0) = j := by rw [hs1]; exact IntWalk.i64_in _ (by omega)
          have HS := Lib.hid (And.intro hs1 hs2)
          have HJ := Lib.hid hj
          clear hE hx hc1 hx1 hWX hs1 hs2 hj
          go_wp2
          have g0 : (wr.alloc (.cells #[.int .i64 x0, .int .i64 x1, .int .i64 x2] 29)).cell? ⟨wr.heap.size, 0, none⟩ = some (.int .i64 x0) := by simp
          have g1 : (wr.alloc (.cells #[.int .i64 x0, .int .i64 x1, .int .i64 x2] 29)).cell? ⟨wr.heap.size, 1, none⟩ = some (.int .i64 x1) := by simp
          have g2 : (wr.alloc (.cells #[.int .i64 x0, .int .i64 x1, .int .i64 x2] 29)).cell? ⟨wr.heap.size, 2, none⟩ = some (.int .i64 x2) := by simp
          have f0 := HE.out.2.old f0
          have f1 := HE.out.2.old f1
          have f2 := HE.out.2.old f2
          have hE2 := HE.out.1.after HE.out.2
          generalize wr.heap.size = q at g0 g1 g2 ⊢
          generalize wr.alloc (.cells #[.int .i64 x0, .int .i64 x1, .int .i64 x2] 29) = X at g0 g1 g2 f0 f1 f2 hE2 ⊢
          have HE2 := Lib.hid hE2
          clear hE2 HE e0 e1 e2
          obtain ⟨hs1, hs2⟩ := HS.out
          go_big_quiet (fail)
          clear hs1 hs2
          go_wp2
          go_roundw
          case rel => exact ⟨k + 1, by omega, by go_num, HE2.out.after ((Wrote.refl Nil X).drewN _)⟩
          case measure => simp [intOf]; omega
      · have hW := Lib.hid hE.wrote
        clear hE
        go_wp2_with (go_at_call 6; (with_reducible refine (awake_any _).mono ?_); rintro e w6 ⟨rfl, hW6⟩)
        go_ret
        exact ⟨rfl, (hW.out.nil hW6).law⟩
  · have c2 : Calls Try.prog 10 #[.slice s0 len0 cap0] w fun e w' => ∃ n, e = .returned (.tuple #[.slice none 0 0, .int .i64 n, .int .i64 4]) ∧ Wrote Nil w w' := c1.mono fun e w' h => by
      rcases h with ⟨h, _⟩ | ⟨_, rfl, hW⟩
      · exact absurd h hall
      · exact ⟨_, rfl, hW⟩
    clear c1 r1 r2 hl hB hall
    go_enter Try.func5, Try.ntmps5
    go_wp2_with (first
      | (go_at_call 10; (with_reducible refine c2.mono ?_); rintro e w2 ⟨n, rfl, hW2⟩; have HW2 := Lib.hid hW2; clear hW2)
      | (go_at_call 6; (with_reducible refine (awake_any _).mono ?_); rintro e w6 ⟨rfl, hW6⟩))
    go_ret
    exact ⟨rfl, (HW2.out.nil hW6).law⟩

/-! the row -/
set_option maxRecDepth 100000 in
theorem lifted (os : Os) (started : os.Started) (H : Type) (enc : TypeId × Value → H) :
    ReturnsInHanded {} Try.checked os 5 .any (Rows.eventPartsSpec.pre6 enc Try.prog Try.f5 Rows.eventPartsRow.domain false) (Rows.eventPartsSpec.post enc Try.prog Try.f5 false true false false) := by
  refine returnsInHanded_of_change (C := Try.checked) own started (by kernel_rfl) Try.func5
    (ChangeSpec.witness6 (enc := enc) (C := Try.checked) false ⟨#[], #[.slice none 0 0, .slice none 0 0], []⟩ 8 (by kernel_rfl) (by kernel_rfl) (by kernel_rfl) (by kernel_rfl)) ?_
  intro W base args ds gs before hval0 hW hcnd _
  have hval : ∀ (j : Nat) t v, Try.f5.params[j]? = some t → args[j]? = some v → Value.okWide Try.prog W .any base t v := hval0
  have hW' := hW
  obtain ⟨p, q, hA0, hV, rfl, hfz, hnd⟩ := hW
  have hA : DataW.TrodAll enc Try.prog W 0 (fun _ => true) true Try.f5.params.toList args.toList ds p := hA0
  rw [Try.params5] at hA hval
  obtain ⟨v0, vs0, d0, ds0, p0, q0, hargs, rfl, rfl, h0, r0'⟩ := trodAll_cons hA
  obtain ⟨v1, vs1, d1, ds1, p1, q1, rfl, rfl, rfl, h1, r1'⟩ := trodAll_cons r0'
  obtain ⟨rfl, rfl, rfl⟩ := trodAll_nil r1'
  obtain rfl : args = #[v0, v1] := by cases args; simp_all
  obtain ⟨rfl, rfl⟩ := trodVars_none hV
  have k0 := h0
  have lt0 : ∀ x ∈ p0, x.block < W.heap.size := by obtain ⟨m, hm⟩ := k0; exact DataW.trod_lt m _ _ _ hm
  obtain ⟨s0, len0, cap0, rfl⟩ := okWide_slice Try.underlying24 (hval 0 24 v0 rfl rfl)
  obtain ⟨l0, z0, r0⟩ := open_slice_ints (ks := [.i64, .i64, .i64]) Try.underlying24 Try.underlying29 (by kernel_rfl) (by kernel_rfl) h0
  have k1 := h1
  have lt1 : ∀ x ∈ p1, x.block < W.heap.size := by obtain ⟨m, hm⟩ := k1; exact DataW.trod_lt m _ _ _ hm
  obtain ⟨s1, len1, cap1, rfl⟩ := okWide_slice Try.underlying22 (hval 1 22 v1 rfl rfl)
  obtain ⟨l1, z1, r1, w1⟩ := open_slice_row Try.underlying22 Try.underlying5 (by kernel_rfl) h1
  clear hA0 hval0
  refine (walk s0 len0 cap0 z0 s1 len1 cap1 z1 W l0 r0 l1 r1 w1).mono fun e W' ⟨he, bel⟩ => ?_
  subst he
  exact ⟨_, rfl, _, _, _, [], _, [], hW', trodAll_mk1 (shut_bool Try.underlying4 _), (trodAll_cons_mk (Below.trod laidOut (by kernel_rfl) (of_decide_eq_true (by kernel_rfl)) k0 bel lt0) (trodAll_cons_mk (Below.trod laidOut (by kernel_rfl) (of_decide_eq_true (by kernel_rfl)) k1 bel lt1) trodAll_mk0)), rfl, bel.frame _, fun h => by cases h⟩

theorem over : Rows.eventPartsRow.holds Try.pinned (OpenSpec.ofChange Rows.eventPartsSpec) :=
  OpenClaim.holds_of_wide 5 Try.f5 rfl rfl rfl rfl rfl rfl rfl ⟨rfl, rfl, rfl, rfl, rfl⟩ rfl rfl rfl rfl rfl (by kernel_rfl) Try.func5 (by kernel_rfl)
    (of_decide_eq_true (by kernel_rfl)) (by unfold Func.isWrapper; first | (rw [if_pos (by decide +kernel)]; kernel_rfl) | (rw [if_neg (by decide +kernel)]; exact ⟨rfl, rfl⟩))
    (fun os started H enc _ => lifted os started H enc)

/-- the statement -/
theorem proved : Rows.EventPartsSaid := over
#print axioms proved
end Go.Proofs.Ytpmceoifppnnbaa.eventParts
