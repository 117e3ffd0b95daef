/- For every input the Go function FifoOrder of weighlocklaw19 returns true, and its arguments read afterwards as before. Conditions: none. -/
import Derived.Test.YtmnephejhkfchaaRows
import Derived.WalkKit
import Derived.ProofKit
import Derived.OpenShut
import Derived.ChangeOld
import Derived.Below
import Derived.Carry
import Derived.Test.YtmnephejhkfchaaFiAw
import Derived.Test.YtmnephejhkfchaaFiRef
namespace Go.Proofs.Ytmnephejhkfchaa.fifoOrder
open Go.ChangeShapes Go.WideShapes Go.ChangeAt Go.RowKit Go.BigFrame Go.Proofs.Ytmnephejhkfchaa.Fi
set_option linter.unusedVariables false

theorem own : ownKnob Try.prog.godebug = none := by kernel_rfl
theorem laidOut : laidOutB Try.prog = true := by kernel_rfl

/-! the walk -/
set_option maxRecDepth 100000 in
set_option maxHeartbeats 2000000 in
theorem walk (a0 : Int) (s1 : Option Addr) (len1 cap1 : Nat) (z1 : Nat → Nat → Int) (w : World) (w0 : (Lit.int .i64 a0).wf = true) (l1 : len1 ≤ cap1 ∧ cap1 ≤ maxLen ∧ (s1 = none → cap1 = 0)) (r1 : StructsK w [.int .i64, .int .i64, .int .i64, .bool] s1 len1 z1) :
    Calls Try.prog 3 #[.int .i64 a0, .slice s1 len1 cap1] w fun e w' => e = .returned (.bool true) ∧ Below w.heap.size w w' := by
  have ca := fi_awake
  by_cases hn : 100 < len1
  · have hn' : (100 : Int) < len1 := by omega
    have c1 := ca w
    go_enter Try.func3, Try.ntmps3
    go_wp2_with (go_at_call 5; (with_reducible refine c1.mono ?_); intro e w1 hq; unfold AwPost at hq; obtain ⟨rfl, hW1⟩ := hq)
    go_ret
    exact ⟨rfl, hW1.law⟩
  have hD := ents_in r1
  obtain ⟨D, hDe⟩ : ∃ D, D = (List.range len1).map (entZ z1) := ⟨_, rfl⟩
  rw [← hDe] at hD
  have hlen := hD.len
  have c1 := fi_check (cap := cap1) hD (by omega) a0
  unfold ChPost at c1
  have hle := FA.chk_le (n := held a0) D FA.new
  obtain ⟨y, hrun⟩ := FA.run_chk (n := held a0) D FA.new
  obtain ⟨c, hc⟩ : ∃ c, c = FA.new.chk (held a0) D := ⟨_, rfl⟩
  rw [← hc] at c1 hle hrun
  rw [hlen] at hle c1
  have cR : ∀ W, Wrote Nil w W → Calls Try.prog 7 #[.slice s1 c cap1] W (RfPost W (D.take c)) := fun W hW => rf_ref (recs_take (hD.after hW) hle) (by omega)
  obtain ⟨E, hE⟩ : ∃ E, E = D.take c := ⟨_, rfl⟩
  rw [← hE] at cR hrun
  have hEl : E.length = c := by rw [hE, List.length_take]; omega
  have hg : ∀ (i : Nat) (e : Ent), E[i]? = some e → e.k = 4 → (∀ t : Nat, lastK (E.take i) t ≠ 4) ∧ ∃ r, queS (E.take i) = e.t :: r := fun i e he hk => grant_at hrun he hk
  have H2 := Lib.hid (And.intro cR (And.intro hEl (And.intro hg ca)))
  have hcap := l1.1
  have hn' : ¬ (100 : Int) < len1 := by omega
  have q1 : decide ((c : Int) < 0) = false := decide_eq_false (by omega)
  have q2 : decide (len1 < c) = false := decide_eq_false (by omega)
  have q0 : (0 : Int) ≤ c := by omega
  have hcc : c ≤ cap1 := by omega
  have hc100 : c ≤ 100 := by omega
  generalize decide (c = len1) = b1 at *
  clear cR hEl hg ca hc hrun hlen hDe hD r1 hn hE
  go_enter Try.func3, Try.ntmps3
  go_upto_region 4 with (go_at_call 6; (with_reducible refine c1.mono ?_); rintro e w1 ⟨rfl, hW1⟩; have H1 := Lib.hid hW1; clear hW1 c1)
  go_upto_region 7 with (go_at_call 7; (with_reducible refine (H2.out.1 _ H1.out).mono ?_); intro e w2 hq; unfold RfPost at hq; obtain ⟨sr, cr, rfl, hcr, hR, hW2⟩ := hq; rw [H2.out.2.1] at hcr hR; have H3 := Lib.hid (And.intro hR (H1.out.nil hW2)); clear hW2 hR)
  rw [H2.out.2.1]
  go_wp2
  go_loopw [37] (fun i wr => ∃ k : Nat, k ≤ c ∧ i = .int .i64 k ∧ Wrote Nil w2 wr) (fun i _ => c - (intOf i).toNat)
  case atStart => exact ⟨0, Nat.zero_le _, rfl, Wrote.refl _ _⟩
  case round =>
    obtain ⟨k, hk, rfl, hW⟩ := hrel
    by_cases hlt : k < c
    · have hltI : (k : Int) < c := by omega
      obtain ⟨⟨x0, x1, x2, x3⟩, hx⟩ : ∃ x, E[k]? = some x := ⟨E[k]'(by rw [H2.out.2.1]; exact hlt), List.getElem?_eq_getElem _⟩
      have hR := H3.out.1.after hW
      rcases hR.at rC_ne with h0 | ⟨gb, go, rfl, hcell⟩
      · omega
      have e0 : wr.cell? ⟨gb, go + k * 4, none⟩ = some (.int .i64 x0) := hcell k _ hx 0 _ rfl
      have e1 : wr.cell? ⟨gb, go + k * 4 + 1, none⟩ = some (.int .i64 x1) := hcell k _ hx 1 _ rfl
      have e2 : wr.cell? ⟨gb, go + k * 4 + 2, none⟩ = some (.int .i64 x2) := hcell k _ hx 2 _ rfl
      have e3 : wr.cell? ⟨gb, go + k * 4 + 3, none⟩ = some (.int .i64 (ldI x3)) := hcell k _ hx 3 _ rfl
      obtain ⟨X, hX⟩ : ∃ X, X = wr.alloc (.cells #[.int .i64 x0, .int .i64 x1, .int .i64 x2, .int .i64 (ldI x3)] 29) := ⟨_, rfl⟩
      obtain ⟨B, hBe⟩ : ∃ B, B = wr.heap.size := ⟨_, rfl⟩
      have hWX : Wrote Nil wr X := by rw [hX]; exact (Wrote.refl _ _).alloc _
      have hB : X.heap[B]? = some (.cells #[.int .i64 x0, .int .i64 x1, .int .i64 x2, .int .i64 (ldI x3)] 29 (0, 0)) := by rw [hX, hBe]; exact Go.Deep.blk_alloc_new _ _
      have hgr := fun q => H2.out.2.2.1 k _ hx q
      dsimp only at hgr
      have HX := Lib.hid (And.intro hX (And.intro hBe (And.intro (hW.nil hWX) (And.intro hB (And.intro (hR.after hWX) hgr)))))
      clear hX hBe hWX hB hcell hx hR hgr hW
      generalize ldI x3 = x4 at *
      go_upto_region 10 with fail
      rw [← HX.out.1, ← HX.out.2.1]
      have b0 : X.cell? ⟨B, 0, none⟩ = some (.int .i64 x0) := (blk_cell HX.out.2.2.2.1 0).trans rfl
      clear e0 e1 e2 e3
      by_cases q4 : x0 = 4
      · have t4 : ((x0 : Int) != 4) = false := by simp [q4]
        obtain ⟨hno, rr, hqu⟩ := HX.out.2.2.2.2.2 q4
        have HG := Lib.hid (And.intro hno hqu)
        clear q4 hno hqu
        have hkcr : k ≤ cr := by omega
        go_wp2
        go_loopw [45] (fun i wx => ∃ t : Nat, t ≤ 64 ∧ i = .int .i64 t ∧ Wrote Nil X wx) (fun i _ => 64 - (intOf i).toNat)
        case atStart => exact ⟨0, Nat.zero_le _, rfl, Wrote.refl _ _⟩
        case round =>
          obtain ⟨t, ht, rfl, hWx⟩ := hrel
          have f1 : wr.cell? ⟨B, 1, none⟩ = some (.int .i64 x1) := hWx.old ((blk_cell HX.out.2.2.2.1 1).trans rfl)
          by_cases hlt2 : t < 64
          · have hlt2' : (t : Int) < 64 := by omega
            have cL := rf_last (cap := cr) (recs_take (HX.out.2.2.2.2.1.after hWx) hk) (by omega) t
            have hl4 : (lastK (E.take k) t == 4) = false := beq_false_of_ne (HG.out.1 t)
            have HW := Lib.hid hWx
            generalize lastK (E.take k) t = lk at *
            clear hWx f1
            go_wp2_with (go_at_call 8; (with_reducible refine cL.mono ?_); rintro e w5 ⟨rfl, hW5⟩; have H5 := Lib.hid (HW.out.nil hW5); clear hW5 cL)
            go_roundw
            case rel => exact ⟨t + 1, hlt2, by go_num, H5.out⟩
            case measure => simp [intOf]; omega
          · obtain rfl : t = 64 := by omega
            have cQ := rf_queue (cap := cr) (recs_take (HX.out.2.2.2.2.1.after hWx) hk) (by omega)
            rw [HG.out.2] at cQ
            have HW := Lib.hid (HX.out.2.2.1.nil hWx)
            clear hWx
            go_upto_region 19 with (go_at_call 9; (with_reducible refine cQ.mono ?_); intro e w5 hq; unfold QuPost at hq; obtain ⟨v, rfl, hG⟩ := hq; have f5 := hG.wrote.old f1; obtain ⟨sq, cq, rfl⟩ := hG.form; obtain ⟨gq, hgq, hcq, _⟩ := ownsRow_cell hG.own (i := 0) (Nat.zero_lt_succ _); subst hgq; have d0 : w5.cell? ⟨gq, 0, none⟩ = some (.int .i64 x1) := hcq.trans rfl; have H5 := Lib.hid (HW.out.nil hG.wrote); clear hG hcq cQ)
            generalize rr.length = m at *
            have g1 : ((m : Int) + 1 == 0) = false := beq_false_of_ne (by omega)
            clear f1
            go_big_quiet (fail)
            go_wp2
            exact ⟨⟨k + 1, hlt, by simp, H5.out.drewN _⟩, by simp [intOf]; omega⟩
      · have t4 : ((x0 : Int) != 4) = true := by simpa using q4
        clear q4
        go_wp2
        exact ⟨⟨k + 1, hlt, by simp, HX.out.2.2.1⟩, by simp [intOf]; omega⟩
    · obtain rfl : k = c := by omega
      have H6 := Lib.hid (H3.out.2.nil hW)
      clear hW
      go_wp2_with (go_at_call 5; (with_reducible refine (H2.out.2.2.2 _).mono ?_); intro e w3 hq; unfold AwPost at hq; obtain ⟨rfl, hW3⟩ := hq; have H4 := Lib.hid (H6.out.nil hW3); clear hW3)
      go_ret
      exact ⟨rfl, H4.out.law⟩

/-! the row -/
set_option maxRecDepth 100000 in
theorem lifted (os : Os) (started : os.Started) (H : Type) (enc : TypeId × Value → H) :
    ReturnsInHanded {} Try.checked os 3 .any (Rows.fifoOrderSpec.pre6 enc Try.prog Try.f3 Rows.fifoOrderRow.domain false) (Rows.fifoOrderSpec.post enc Try.prog Try.f3 false true false false) := by
  refine returnsInHanded_of_change (C := Try.checked) own started (by kernel_rfl) Try.func3
    (ChangeSpec.witness6 (enc := enc) (C := Try.checked) false ⟨#[], #[.int .i64 0, .slice none 0 0], []⟩ 8 (by kernel_rfl) (by kernel_rfl) (by kernel_rfl) (by kernel_rfl)) ?_
  intro W base args ds gs before hval0 hW hcnd _
  have hval : ∀ (j : Nat) t v, Try.f3.params[j]? = some t → args[j]? = some v → Value.okWide Try.prog W .any base t v := hval0
  have hW' := hW
  obtain ⟨p, q, hA0, hV, rfl, hfz, hnd⟩ := hW
  have hA : DataW.TrodAll enc Try.prog W 0 (fun _ => true) true Try.f3.params.toList args.toList ds p := hA0
  rw [Try.params3] at hA hval
  obtain ⟨v0, vs0, d0, ds0, p0, q0, hargs, rfl, rfl, h0, r0'⟩ := trodAll_cons hA
  obtain ⟨v1, vs1, d1, ds1, p1, q1, rfl, rfl, rfl, h1, r1'⟩ := trodAll_cons r0'
  obtain ⟨rfl, rfl, rfl⟩ := trodAll_nil r1'
  obtain rfl : args = #[v0, v1] := by cases args; simp_all
  obtain ⟨rfl, rfl⟩ := trodVars_none hV
  obtain ⟨a0, rfl, rfl, rfl, w0⟩ := open_int Try.underlying3 (hval 0 3 v0 rfl rfl) h0
  have k1 := h1
  have lt1 : ∀ x ∈ p1, x.block < W.heap.size := by obtain ⟨m, hm⟩ := k1; exact DataW.trod_lt m _ _ _ hm
  obtain ⟨s1, len1, cap1, rfl⟩ := okWide_slice Try.underlying22 (hval 1 22 v1 rfl rfl)
  obtain ⟨l1, z1, r1⟩ := open_slice_fk (ks := [.int .i64, .int .i64, .int .i64, .bool]) Try.underlying22 Try.underlying36 (by kernel_rfl) (by kernel_rfl) h1
  clear hA0 hval0
  refine (walk a0 s1 len1 cap1 z1 W w0 l1 r1).mono fun e W' ⟨he, bel⟩ => ?_
  subst he
  exact ⟨_, rfl, _, _, _, [], _, [], hW', trodAll_mk1 (shut_bool Try.underlying4 _), (trodAll_cons_mk (shut_int Try.underlying3 w0) (trodAll_cons_mk (Below.trod laidOut (by kernel_rfl) (of_decide_eq_true (by kernel_rfl)) k1 bel lt1) trodAll_mk0)), rfl, bel.frame _, fun h => by cases h⟩

theorem over : Rows.fifoOrderRow.holds Try.pinned (OpenSpec.ofChange Rows.fifoOrderSpec) :=
  OpenClaim.holds_of_wide 3 Try.f3 rfl rfl rfl rfl rfl rfl rfl ⟨rfl, rfl, rfl, rfl, rfl⟩ rfl rfl rfl rfl rfl (by kernel_rfl) Try.func3 (by kernel_rfl)
    (of_decide_eq_true (by kernel_rfl)) (by unfold Func.isWrapper; first | (rw [if_pos (by decide +kernel)]; kernel_rfl) | (rw [if_neg (by decide +kernel)]; exact ⟨rfl, rfl⟩))
    (fun os started H enc _ => lifted os started H enc)

/-- the statement -/
theorem proved : Rows.FifoOrderSaid := over
#print axioms proved
end Go.Proofs.Ytmnephejhkfchaa.fifoOrder
