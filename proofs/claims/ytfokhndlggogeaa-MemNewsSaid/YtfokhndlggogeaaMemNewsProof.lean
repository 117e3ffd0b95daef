/- For every input the Go function MemNews of weighlocklaw02 returns true, and its arguments read afterwards as before. Conditions: none. -/
import Derived.Test.YtfokhndlggogeaaRows
import Derived.WalkKit
import Derived.ProofKit
import Derived.OpenShut
import Derived.ChangeOld
import Derived.Below
import Derived.Carry
import Derived.Test.YtfokhndlggogeaaMemHomes
namespace Go.Proofs.Ytfokhndlggogeaa.memNews
open Go.ChangeShapes Go.WideShapes Go.ChangeAt Go.RowKit
set_option linter.unusedVariables false

theorem own : ownKnob Try.prog.godebug = none := by kernel_rfl
theorem laidOut : laidOutB Try.prog = true := by kernel_rfl

/-! the walk -/
set_option maxHeartbeats 2000000 in
theorem walk (s0 : Option Addr) (len0 cap0 : Nat) (z0 : List Int) (a1 : Int) (w : World) (l0 : len0 ≤ cap0 ∧ cap0 ≤ maxLen ∧ (s0 = none → cap0 = 0)) (r0 : RowAt .i64 w s0 len0 z0) (w0 : ∀ z ∈ z0, (Lit.int .i64 z).wf = true) (w1 : (Lit.int .u16 a1).wf = true) :
    Calls Try.prog 4 #[.slice s0 len0 cap0, .int .u16 a1] w fun e w' => e = .returned (.bool true) ∧ Below w.heap.size w w' := by
  obtain ⟨i0, hi, hz0, hz1, hz2⟩ := info_parts info_int
  obtain ⟨u0, u1⟩ := u16_bd w1
  have hml : len0 ≤ 9223372036854775807 := by have := l0.1; have := l0.2.1; unfold maxLen at this; omega
  by_cases hbig : 200 < len0
  · go_enter Try.func4, Try.ntmps4
    go_wp2_with (go_at_call 8; refine (awake_any _).mono ?_; rintro e w6 ⟨rfl, hW6⟩)
    go_ret
    exact ⟨rfl, hW6.law⟩
  by_cases hm : 60000 < a1
  · obtain ⟨L, hL⟩ : ∃ L : Nat, (L : Int) = 4090 + a1 % 12 := ⟨(4090 + a1 % 12).toNat, by omega⟩
    have hL1 : L ≤ 4101 := by omega
    have hmk : ∀ w : World, (Instr.makeSlice 28 (.int .i64 (4090 + a1 % 12)) (.int .i64 (4090 + a1 % 12))).run Try.prog w = .ok (.slice (some ⟨w.heap.size, 0, none⟩) L L) (w.alloc (.cells (madeCells #[.int .i64 0] L) 3)) := by
      intro w
      rw [← hL]
      exact Go.run_make_row' (P := Try.prog) 28 3 (.int .i64 0) 8 Try.underlying28 info_int rfl .i64 .i64 L (by omega) (by omega) w
    have HL := Lib.hid hL
    clear hL
    by_cases hLb : 4096 < L
    · go_enter Try.func4, Try.ntmps4
      go_wp2_with (first
        | (at_builtin; refine wpList_append_row rfl _ _ 28 rfl w.heap.size 3 i0 (.int .i64 0) 8 Try.underlying28 hi hz0 hz1 hz2 rfl .i64 _ 0 [] rfl (World.ownsRow_made w #[] 0 (Nat.le_refl _) (by unfold maxLen; omega) rfl) s0 len0 cap0 z0 rfl (r0.after ((Wrote.refl Nil w).alloc _)) l0.2.2 (by unfold maxLen; omega) (by omega) (by simp) ?_; intro v' wa hown' hgrow; rw [Nat.zero_add, List.nil_append] at hown'; obtain ⟨so, cp, rfl, hcp1, hcp2, hr, hsob⟩ := own_rowAt hown'; have hWa : Wrote Nil w wa := ((Wrote.refl Nil w).alloc _).grown hgrow (fun j hj hlt => by have e : w.heap.size = j := Option.some.inj hj; omega); clear hown' hgrow)
        | (go_at_call 9; refine (new_big hLb (by omega)).mono ?_; rintro e w' ⟨rfl, rfl⟩)
        | (go_at_call 8; refine (awake_any _).mono ?_; rintro e w6 ⟨rfl, hW6⟩))
      go_ret
      exact ⟨rfl, ((hWa.alloc _).nil hW6).law⟩
    · go_enter Try.func4, Try.ntmps4
      go_wp2_with (first
        | (at_builtin; refine wpList_append_row rfl _ _ 28 rfl w.heap.size 3 i0 (.int .i64 0) 8 Try.underlying28 hi hz0 hz1 hz2 rfl .i64 _ 0 [] rfl (World.ownsRow_made w #[] 0 (Nat.le_refl _) (by unfold maxLen; omega) rfl) s0 len0 cap0 z0 rfl (r0.after ((Wrote.refl Nil w).alloc _)) l0.2.2 (by unfold maxLen; omega) (by omega) (by simp) ?_; intro v' wa hown' hgrow; rw [Nat.zero_add, List.nil_append] at hown'; obtain ⟨so, cp, rfl, hcp1, hcp2, hr, hsob⟩ := own_rowAt hown'; have hWa : Wrote Nil w wa := ((Wrote.refl Nil w).alloc _).grown hgrow (fun j hj hlt => by have e : w.heap.size = j := Option.some.inj hj; omega); clear hown' hgrow)
        | (go_at_call 9; refine (new_ok (row_made (w := wa) (L := L) (by simp)) (by omega) (home_rep L)).mono ?_; rintro e w2 ⟨b, bw, hv, rfl, hM, hb, hbw, hown, hW2⟩)
        | (go_at_call 14; have c := homes_any (cap := L) ((row_made (w := wa) (L := L) rfl).after hW2) (by omega); rw [home_rep L] at c; with_reducible refine c.mono ?_; rintro e w' ⟨rfl, rfl⟩)
        | (go_at_call 10; have c := len_any hM; rw [List.length_replicate] at c; with_reducible refine c.mono ?_; rintro e w' ⟨rfl, rfl⟩)
        | (go_at_call 8; refine (awake_any _).mono ?_; rintro e w6 ⟨rfl, hW6⟩))
      have hr : RowAt .i64 (wa.alloc (.cells (madeCells #[.int .i64 0] L) 3)) (some ⟨wa.heap.size, 0, none⟩) L (List.replicate L 0) := row_made rfl
      have hwsz := hWa.size
      have hWa := hWa.alloc (.cells (madeCells #[.int .i64 0] L) 3)
      rw [Go.Deep.nblk_alloc] at hb hbw hown
      have hso : L = 0 ∨ ∃ g, (some ⟨wa.heap.size, 0, none⟩ : Option Addr) = some ⟨g, 0, none⟩ ∧ w.heap.size ≤ g ∧ g < wa.heap.size + 1 ∧ b ≠ g ∧ bw ≠ g ∧ ∀ j, hv.ownBlock = some j → j ≠ g :=
        .inr ⟨wa.heap.size, rfl, hwsz, by omega, by omega, by omega, fun j hj => by have := hown j hj; omega⟩
      have FZ2 : ∀ b', (some ⟨wa.heap.size, 0, none⟩ : Option Addr) = some b' → ∀ j, w2.frozen? ⟨b'.block, j, none⟩ = false := fun b' hb' j => by
        obtain rfl : (⟨wa.heap.size, 0, none⟩ : Addr) = b' := Option.some.inj hb'
        rw [World.frozen?_of_block (w := wa.alloc (.cells (madeCells #[.int .i64 0] L) 3)) (a := ⟨wa.heap.size, j, none⟩) (hW2.block _ (by rw [Go.Deep.nblk_alloc]; exact Nat.lt_succ_self _) id)]
        exact World.frozen?_alloc_new _ _ _ _
      go_loopw [70] (fun i wr => ∃ (k : Nat) (zs : List Int), k ≤ L ∧ i = .int .i64 k ∧ RowAt .i64 wr (some ⟨wa.heap.size, 0, none⟩) L zs ∧ Hid (∀ j, k ≤ j → zs.getD j 0 = (List.replicate L 0).getD j 0) ∧ Hid (∀ b', (some ⟨wa.heap.size, 0, none⟩ : Option Addr) = some b' → ∀ j, wr.frozen? ⟨b'.block, j, none⟩ = false) ∧ MemAt wr b bw hv (List.replicate L 0) (List.replicate L 0) ∧ Wrote Nil w wr) (fun i _ => L - (intOf i).toNat)
      case atStart => exact ⟨0, (List.replicate L 0), Nat.zero_le _, rfl, hr.after hW2, fun _ _ => rfl, FZ2, hM, hWa.nil hW2⟩
      case round =>
        obtain ⟨k, zs, hk, rfl, hrow, hzs, hfz, hM', hW'⟩ := hrel
        by_cases hlt : k < L
        · rcases hso with h0 | ⟨g, hge, hg0, hg1, hgb, hgw, hgh⟩
          · omega
          · obtain rfl : wa.heap.size = g := by simpa using hge
            clear hge
            obtain ⟨x, hx⟩ : ∃ x, x = (List.replicate L (0 : Int)).getD k 0 := ⟨_, rfl⟩
            have hc := hrow.cell _ rfl k hlt
            rw [Go.Addr.add_lit, Nat.zero_add, hzs.out k (Nat.le_refl _), ← hx] at hc
            have hfk := hfz.out _ rfl k
            have hM2 : MemAt (wr.setCell ⟨wa.heap.size, k, none⟩ (.int .i64 5)) b bw hv (List.replicate L 0) (List.replicate L 0) := hM'.keep (Go.Deep.blk_setCell_other _ _ _ _ hgb) (Go.Deep.blk_setCell_other _ _ _ _ hgw) (fun j hj => Go.Deep.blk_setCell_other _ _ _ _ (hgh j hj))
            have hrow2 := hrow.set k hlt 5
            rw [Nat.zero_add] at hrow2
            have hW2' : Wrote Nil w (wr.setCell ⟨wa.heap.size, k, none⟩ (.int .i64 5)) := hW'.setCell _ _ (by intro h; simp only at h; omega)
            have hx' := Lib.hid hx
            clear hx hrow hM' hW'
            go_wp2_with (first
              | (go_at_call 15; have c := home_any hM2 (k : Int); rw [load_at, ← hx'.out] at c; with_reducible refine c.mono ?_; rintro e w' ⟨rfl, rfl⟩)
              | (go_at_call 16; have c := load_any hM2 (k : Int); rw [load_rep] at c; with_reducible refine c.mono ?_; rintro e w' ⟨rfl, rfl⟩))
            go_roundw
            case rel => exact ⟨k + 1, zs.set k 5, by omega, by go_num, hrow2, fun j hj => by rw [← hzs.out j (by omega)]; simp [show ¬ k = j by omega], fun b' hb' j => by rw [World.frozen?_setCell]; exact hfz.out b' hb' j, hM2, hW2'⟩
            case measure => simp [intOf]; omega
        · go_wp2_with (first
            | (go_at_call 15; have c := home_any hM' (-1); rw [show loadI (List.replicate L 0) (-1) = 0 from rfl] at c; with_reducible refine c.mono ?_; rintro e w' ⟨rfl, rfl⟩)
            | (go_at_call 15; have c := home_any hM' (L : Int); rw [load_not (show ¬ (0 ≤ (L : Int) ∧ (L : Int) < ((List.replicate L (0 : Int)).length : Int)) by rw [hr.len]; omega)] at c; with_reducible refine c.mono ?_; rintro e w' ⟨rfl, rfl⟩)
            | (go_at_call 8; refine (awake_any _).mono ?_; rintro e w6 ⟨rfl, hW6⟩))
          go_ret
          exact ⟨rfl, (hW'.nil hW6).law⟩
  · by_cases hok : homesOK z0 = true
    · go_enter Try.func4, Try.ntmps4
      go_wp2_with (first
        | (at_builtin; refine wpList_append_row rfl _ _ 28 rfl w.heap.size 3 i0 (.int .i64 0) 8 Try.underlying28 hi hz0 hz1 hz2 rfl .i64 _ 0 [] rfl (World.ownsRow_made w #[] 0 (Nat.le_refl _) (by unfold maxLen; omega) rfl) s0 len0 cap0 z0 rfl (r0.after ((Wrote.refl Nil w).alloc _)) l0.2.2 (by unfold maxLen; omega) (by omega) (by simp) ?_; intro v' wa hown' hgrow; rw [Nat.zero_add, List.nil_append] at hown'; obtain ⟨so, cp, rfl, hcp1, hcp2, hr, hsob⟩ := own_rowAt hown'; have hWa : Wrote Nil w wa := ((Wrote.refl Nil w).alloc _).grown hgrow (fun j hj hlt => by have e : w.heap.size = j := Option.some.inj hj; omega); clear hown' hgrow)
        | (go_at_call 9; refine (new_ok hr (by omega) hok).mono ?_; rintro e w2 ⟨b, bw, hv, rfl, hM, hb, hbw, hown, hW2⟩)
        | (go_at_call 14; have c := homes_any (cap := cp) (hr.after hW2) hml; rw [hok] at c; with_reducible refine c.mono ?_; rintro e w' ⟨rfl, rfl⟩)
        | (go_at_call 10; have c := len_any hM; rw [List.length_replicate] at c; with_reducible refine c.mono ?_; rintro e w' ⟨rfl, rfl⟩)
        | (go_at_call 8; refine (awake_any _).mono ?_; rintro e w6 ⟨rfl, hW6⟩))
      have hso : len0 = 0 ∨ ∃ g, so = some ⟨g, 0, none⟩ ∧ w.heap.size ≤ g ∧ g < wa.heap.size ∧ b ≠ g ∧ bw ≠ g ∧ ∀ j, hv.ownBlock = some j → j ≠ g := by
        cases so with
        | none => exact .inl (hr.empty rfl)
        | some ad =>
          obtain ⟨g, o, sp⟩ := ad
          obtain ⟨q0, q1, rfl, rfl, _⟩ := hsob _ rfl
          exact .inr ⟨g, rfl, q0, q1, by simp only at q1; omega, by simp only at q1; omega, fun j hj => by have := hown j hj; simp only at q1; omega⟩
      have FZ2 : ∀ b', so = some b' → ∀ j, w2.frozen? ⟨b'.block, j, none⟩ = false := fun b' hb' j => by
        obtain ⟨_, q1, _, _, q4⟩ := hsob b' hb'
        rw [World.frozen?_of_block (w := wa) (a := ⟨b'.block, j, none⟩) (hW2.block _ q1 id)]
        exact q4 j
      clear hsob
      go_loopw [70] (fun i wr => ∃ (k : Nat) (zs : List Int), k ≤ len0 ∧ i = .int .i64 k ∧ RowAt .i64 wr so len0 zs ∧ Hid (∀ j, k ≤ j → zs.getD j 0 = z0.getD j 0) ∧ Hid (∀ b', so = some b' → ∀ j, wr.frozen? ⟨b'.block, j, none⟩ = false) ∧ MemAt wr b bw hv z0 (List.replicate len0 0) ∧ Wrote Nil w wr) (fun i _ => len0 - (intOf i).toNat)
      case atStart => exact ⟨0, z0, Nat.zero_le _, rfl, hr.after hW2, fun _ _ => rfl, FZ2, hM, hWa.nil hW2⟩
      case round =>
        obtain ⟨k, zs, hk, rfl, hrow, hzs, hfz, hM', hW'⟩ := hrel
        by_cases hlt : k < len0
        · rcases hso with h0 | ⟨g, rfl, hg0, hg1, hgb, hgw, hgh⟩
          · omega
          · obtain ⟨x, hx⟩ : ∃ x, x = z0.getD k 0 := ⟨_, rfl⟩
            have hc := hrow.cell _ rfl k hlt
            rw [Go.Addr.add_lit, Nat.zero_add, hzs.out k (Nat.le_refl _), ← hx] at hc
            have hfk := hfz.out _ rfl k
            have hM2 : MemAt (wr.setCell ⟨g, k, none⟩ (.int .i64 5)) b bw hv z0 (List.replicate len0 0) := hM'.keep (Go.Deep.blk_setCell_other _ _ _ _ hgb) (Go.Deep.blk_setCell_other _ _ _ _ hgw) (fun j hj => Go.Deep.blk_setCell_other _ _ _ _ (hgh j hj))
            have hrow2 := hrow.set k hlt 5
            rw [Nat.zero_add] at hrow2
            have hW2' : Wrote Nil w (wr.setCell ⟨g, k, none⟩ (.int .i64 5)) := hW'.setCell _ _ (by intro h; simp only at h; omega)
            have hx' := Lib.hid hx
            clear hx hrow hM' hW'
            go_wp2_with (first
              | (go_at_call 15; have c := home_any hM2 (k : Int); rw [load_at, ← hx'.out] at c; with_reducible refine c.mono ?_; rintro e w' ⟨rfl, rfl⟩)
              | (go_at_call 16; have c := load_any hM2 (k : Int); rw [load_rep] at c; with_reducible refine c.mono ?_; rintro e w' ⟨rfl, rfl⟩))
            go_roundw
            case rel => exact ⟨k + 1, zs.set k 5, by omega, by go_num, hrow2, fun j hj => by rw [← hzs.out j (by omega)]; simp [show ¬ k = j by omega], fun b' hb' j => by rw [World.frozen?_setCell]; exact hfz.out b' hb' j, hM2, hW2'⟩
            case measure => simp [intOf]; omega
        · go_wp2_with (first
            | (go_at_call 15; have c := home_any hM' (-1); rw [show loadI z0 (-1) = 0 from rfl] at c; with_reducible refine c.mono ?_; rintro e w' ⟨rfl, rfl⟩)
            | (go_at_call 15; have c := home_any hM' (len0 : Int); rw [load_not (show ¬ (0 ≤ (len0 : Int) ∧ (len0 : Int) < (z0.length : Int)) by rw [hr.len]; omega)] at c; with_reducible refine c.mono ?_; rintro e w' ⟨rfl, rfl⟩)
            | (go_at_call 8; refine (awake_any _).mono ?_; rintro e w6 ⟨rfl, hW6⟩))
          go_ret
          exact ⟨rfl, (hW'.nil hW6).law⟩
    · have hnok : homesOK z0 = false := by simpa using hok
      clear hok
      go_enter Try.func4, Try.ntmps4
      go_wp2_with (first
        | (at_builtin; refine wpList_append_row rfl _ _ 28 rfl w.heap.size 3 i0 (.int .i64 0) 8 Try.underlying28 hi hz0 hz1 hz2 rfl .i64 _ 0 [] rfl (World.ownsRow_made w #[] 0 (Nat.le_refl _) (by unfold maxLen; omega) rfl) s0 len0 cap0 z0 rfl (r0.after ((Wrote.refl Nil w).alloc _)) l0.2.2 (by unfold maxLen; omega) (by omega) (by simp) ?_; intro v' wa hown' hgrow; rw [Nat.zero_add, List.nil_append] at hown'; obtain ⟨so, cp, rfl, hcp1, hcp2, hr, hsob⟩ := own_rowAt hown'; have hWa : Wrote Nil w wa := ((Wrote.refl Nil w).alloc _).grown hgrow (fun j hj hlt => by have e : w.heap.size = j := Option.some.inj hj; omega); clear hown' hgrow)
        | (go_at_call 9; refine (new_bad hr (by omega) hnok).mono ?_; rintro e w2 ⟨rfl, hW2⟩)
        | (go_at_call 14; have c := homes_any (cap := cp) (hr.after hW2) hml; rw [hnok] at c; with_reducible refine c.mono ?_; rintro e w' ⟨rfl, rfl⟩)
        | (go_at_call 8; refine (awake_any _).mono ?_; rintro e w6 ⟨rfl, hW6⟩))
      go_ret
      exact ⟨rfl, ((hWa.nil hW2).nil hW6).law⟩

/-! the row -/
set_option maxRecDepth 100000 in
theorem lifted (os : Os) (started : os.Started) (H : Type) (enc : TypeId × Value → H) :
    ReturnsInHanded {} Try.checked os 4 .any (Rows.memNewsSpec.pre6 enc Try.prog Try.f4 Rows.memNewsRow.domain false) (Rows.memNewsSpec.post enc Try.prog Try.f4 false true false false) := by
  refine returnsInHanded_of_change (C := Try.checked) own started (by kernel_rfl) Try.func4
    (ChangeSpec.witness6 (enc := enc) (C := Try.checked) false ⟨#[], #[.slice none 0 0, .int .u16 0], []⟩ 8 (by kernel_rfl) (by kernel_rfl) (by kernel_rfl) (by kernel_rfl)) ?_
  intro W base args ds gs before hval0 hW hcnd _
  have hval : ∀ (j : Nat) t v, Try.f4.params[j]? = some t → args[j]? = some v → Value.okWide Try.prog W .any base t v := hval0
  have hW' := hW
  obtain ⟨p, q, hA0, hV, rfl, hfz, hnd⟩ := hW
  have hA : DataW.TrodAll enc Try.prog W 0 (fun _ => true) true Try.f4.params.toList args.toList ds p := hA0
  rw [Try.params4] at hA hval
  obtain ⟨v0, vs0, d0, ds0, p0, q0, hargs, rfl, rfl, h0, r0'⟩ := trodAll_cons hA
  obtain ⟨v1, vs1, d1, ds1, p1, q1, rfl, rfl, rfl, h1, r1'⟩ := trodAll_cons r0'
  obtain ⟨rfl, rfl, rfl⟩ := trodAll_nil r1'
  obtain rfl : args = #[v0, v1] := by cases args; simp_all
  obtain ⟨rfl, rfl⟩ := trodVars_none hV
  have k0 := h0
  have lt0 : ∀ x ∈ p0, x.block < W.heap.size := by obtain ⟨m, hm⟩ := k0; exact DataW.trod_lt m _ _ _ hm
  obtain ⟨s0, len0, cap0, rfl⟩ := okWide_slice Try.underlying28 (hval 0 28 v0 rfl rfl)
  obtain ⟨l0, z0, r0, w0⟩ := open_slice_row Try.underlying28 Try.underlying3 (by kernel_rfl) h0
  obtain ⟨a1, rfl, rfl, rfl, w1⟩ := open_int Try.underlying41 (hval 1 41 v1 rfl rfl) h1
  clear hA0 hval0
  refine (walk s0 len0 cap0 z0 a1 W l0 r0 w0 w1).mono fun e W' ⟨he, bel⟩ => ?_
  subst he
  exact ⟨_, rfl, _, _, _, [], _, [], hW', trodAll_mk1 (shut_bool Try.underlying4 _), (trodAll_cons_mk (Below.trod laidOut (by kernel_rfl) (of_decide_eq_true (by kernel_rfl)) k0 bel lt0) (trodAll_cons_mk (shut_int Try.underlying41 w1) trodAll_mk0)), rfl, bel.frame _, fun h => by cases h⟩

theorem over : Rows.memNewsRow.holds Try.pinned (OpenSpec.ofChange Rows.memNewsSpec) :=
  OpenClaim.holds_of_wide 4 Try.f4 rfl rfl rfl rfl rfl rfl rfl ⟨rfl, rfl, rfl, rfl, rfl⟩ rfl rfl rfl rfl rfl (by kernel_rfl) Try.func4 (by kernel_rfl)
    (of_decide_eq_true (by kernel_rfl)) (by unfold Func.isWrapper; first | (rw [if_pos (by decide +kernel)]; kernel_rfl) | (rw [if_neg (by decide +kernel)]; exact ⟨rfl, rfl⟩))
    (fun os started H enc _ => lifted os started H enc)

/-- the statement -/
theorem proved : Rows.MemNewsSaid := over
#print axioms proved
end Go.Proofs.Ytfokhndlggogeaa.memNews
