/- For every input the Go function MemApart of weighlocklaw02 returns true, and its arguments read afterwards as before. Conditions: none. -/
import Derived.Test.YtfokhndlggogeaaRows
import Derived.WalkKit
import Derived.ProofKit
import Derived.OpenShut
import Derived.ChangeOld
import Derived.Below
import Derived.Carry
import Derived.Test.YtfokhndlggogeaaMemHomes
namespace Go.Proofs.Ytfokhndlggogeaa.memApart
open Go.BigFrame Go.ChangeShapes Go.WideShapes Go.ChangeAt Go.RowKit
set_option linter.unusedVariables false

theorem own : ownKnob Try.prog.godebug = none := by kernel_rfl
theorem laidOut : laidOutB Try.prog = true := by kernel_rfl

/-! the walk -/
set_option maxRecDepth 100000 in
set_option maxHeartbeats 2000000 in
theorem walk (s0 : Option Addr) (len0 cap0 : Nat) (z0 : List Int) (a1_0 a1_1 a1_2 a1_3 : Int) (w : World) (l0 : len0 ≤ cap0 ∧ cap0 ≤ maxLen ∧ (s0 = none → cap0 = 0)) (r0 : RowAt .u32 w s0 len0 z0) (w0 : ∀ z ∈ z0, (Lit.int .u32 z).wf = true) (w1_0 : (Lit.int .i64 a1_0).wf = true) (w1_1 : (Lit.int .i64 a1_1).wf = true) (w1_2 : (Lit.int .u32 a1_2).wf = true) (w1_3 : (Lit.int .u32 a1_3).wf = true) :
    Calls Try.prog 6 #[.slice s0 len0 cap0, .agg #[.int .i64 a1_0, .int .i64 a1_1, .int .u32 a1_2, .int .u32 a1_3]] w fun e w' => e = .returned (.bool true) ∧ Below w.heap.size w w' := by
  have hml : len0 ≤ 9223372036854775807 := by have := l0.1; have := l0.2.1; unfold maxLen at this; omega
  obtain ⟨v0, v1⟩ := u32_bd w1_3
  obtain ⟨X, hX⟩ : ∃ X, X = w.alloc (.cells #[.int .i64 a1_0, .int .i64 a1_1, .int .u32 a1_2, .int .u32 a1_3] 33) := ⟨_, rfl⟩
  by_cases hl : 40 < len0
  · have hmk1 : ∀ w : World, (Instr.makeSlice 28 (.int .i64 40) (.int .i64 40)).run Try.prog w = .ok (.slice (some ⟨w.heap.size, 0, none⟩) 40 40) (w.alloc (.cells (madeCells #[.int .i64 0] 40) 3)) :=
      fun w => Go.run_make_row' (P := Try.prog) 28 3 (.int .i64 0) 8 Try.underlying28 info_int rfl .i64 .i64 40 (by omega) (by omega) w
    clear hX
    go_enter Try.func6, Try.ntmps6
    go_wp2_with (first
      | (go_at_call 9; refine (new_since (w0 := w) (((Wrote.refl Nil w).alloc _).alloc _) (row_made (L := 40) (by simp)) (by omega) (home_rep 40)).mono ?_; rintro e w1 ⟨b, bw, hv, rfl, hM1, hb, hbw, hown, hW1⟩)
      | (go_at_call 8; refine (awake_any _).mono ?_; rintro e w6 ⟨rfl, hW6⟩))
    go_ret
    exact ⟨rfl, (hW1.nil hW6).law⟩
  · have hmk1 := Go.run_make_row' (P := Try.prog) 28 3 (.int .i64 0) 8 Try.underlying28 info_int rfl .i64 .i64 len0 (by omega) (by omega)
    have x0 : X.cell? ⟨w.heap.size, 0, none⟩ = some (.int .i64 a1_0) := by rw [hX]; simp
    have x1 : X.cell? ⟨w.heap.size, 1, none⟩ = some (.int .i64 a1_1) := by rw [hX]; simp
    have x2 : X.cell? ⟨w.heap.size, 2, none⟩ = some (.int .u32 a1_2) := by rw [hX]; simp
    have x3 : X.cell? ⟨w.heap.size, 3, none⟩ = some (.int .u32 a1_3) := by rw [hX]; simp
    have hWX : Wrote Nil w X := by rw [hX]; exact (Wrote.refl _ _).alloc _
    have rX := r0.after hWX
    have hat := rX.at
    have hzr := wf_getD w0
    have hzl := r0.len
    have HXX := Lib.hid (And.intro hX (And.intro rX (And.intro hWX (And.intro hzr hzl))))
    clear hX rX hWX r0 w0 l0 hzr hzl
    go_enter Try.func6, Try.ntmps6
    go_wp2_with (first
      | (go_at_call 9; rw [← HXX.out.1]; refine (new_since (w0 := X) ((Wrote.refl Nil X).alloc _) (row_made (L := len0) (by rw [HXX.out.1]; simp)) (by omega) (home_rep len0)).mono ?_; rintro e w1 ⟨b, bw, hv, rfl, hM1, hb, hbw, hown, hW1⟩))
    go_loopw [42] (fun i wr => ∃ (k : Nat) (ws : List Int), k ≤ len0 ∧ i = .int .i64 k ∧ Hid (∀ j, j < k → ws.getD j 0 = z0.getD j 0) ∧ MemAt wr b bw hv (List.replicate len0 0) ws ∧ Wrote Nil X wr) (fun i _ => len0 - (intOf i).toNat)
    case atStart => exact ⟨0, List.replicate len0 0, Nat.zero_le _, rfl, (fun j hj => by omega), hM1, hW1⟩
    case round =>
      obtain ⟨k, ws, hk, rfl, hzs, hM, hW⟩ := hrel
      by_cases hlt : k < len0
      · rcases hat with h0 | ⟨ob, oo, rfl, hcs⟩
        · omega
        · obtain ⟨z, hz⟩ : ∃ z, z = z0.getD k 0 := ⟨_, rfl⟩
          have q0 := hW.old (hcs k hlt)
          rw [← hz] at q0
          have hzz := HXX.out.2.2.2.1 k
          rw [← hz] at hzz
          obtain ⟨z0', z1'⟩ := hzz
          have hlen := hM.hlen
          rw [List.length_replicate] at hlen
          have HC := Lib.hid (And.intro hcs (And.intro hz hlen))
          clear hcs hz hlen
          go_wp2_with (go_at_call 18; refine (store_any hM (k : Int) z z0' z1').mono ?_; rw [store_at]; rintro e w2 ⟨rfl, hM2, hW2⟩)
          go_roundw
          case rel =>
            refine ⟨k + 1, ws.set k z, by omega, by go_num, fun j hj => ?_, hM2, hW.one hW2 hbw⟩
            rw [List.getD_eq_getElem?_getD, List.getElem?_set]
            by_cases e : k = j
            · subst e
              rw [if_pos rfl, if_pos (by rw [← HC.out.2.2]; exact hlt), HC.out.2.1]
              rfl
            · rw [if_neg e, ← List.getD_eq_getElem?_getD]
              exact hzs.out j (by omega)
          case measure => simp [intOf]; omega
      · have hlen := hM.hlen
        rw [List.length_replicate] at hlen
        have hws : ws = z0 := ext_getD (n := len0) hlen.symm HXX.out.2.2.2.2 (fun j hj => hzs.out j (by omega))
        subst hws
        have y0 := hW.old x0
        have y1 := hW.old x1
        have y2 := hW.old x2
        have y3 := hW.old x3
        clear hzs x0 x1 x2 x3 hM1 hW1
        have HLL := Lib.hid hlen
        clear hlen
        go_wp2_with (first
          | (go_at_call 12; refine (told_any hM a1_0 a1_1 a1_2 a1_3 v0 v1).mono ?_; intro e w3 h; unfold ToldPost at h; obtain ⟨rfl, hM3, hW3⟩ := h)
          | (go_at_call 13; have c := words_any hM3; with_reducible refine c.mono ?_; intro e w4 h; unfold WordsPost at h; rw [doL_len, ← HLL.out] at h; obtain ⟨g, rfl, hrw, hg, hW4⟩ := h; have hM4 := hM3.after hW4; have t1 := hW4.old ((hW.one hW3 hbw).old (show X.cell? ⟨w.heap.size, 1, none⟩ = some (.int .i64 a1_1) by rw [HXX.out.1]; simp)); have hW5 := (hW.one hW3 hbw).nil hW4; clear hM hM3 y0 y1 y2 y3))
        go_loopw [59] (fun i wr => ∃ (k : Nat), k ≤ len0 ∧ i = .int .i64 k ∧ MemAt wr b bw hv (List.replicate len0 0) (doL ws a1_0 a1_1 a1_2 a1_3) ∧ wr.rowIs g 31 len0 (fun j => .int .u32 ((doL ws a1_0 a1_1 a1_2 a1_3).getD j 0)) ∧ Wrote Nil X wr) (fun i _ => len0 - (intOf i).toNat)
        case atStart => exact ⟨0, Nat.zero_le _, rfl, hM4, hrw, hW5⟩
        case round =>
          obtain ⟨k, hk, rfl, hM6, hrow, hW6⟩ := hrel
          by_cases hlt : k < len0
          · rcases hat with h0 | ⟨ob, oo, rfl, hcs⟩
            · omega
            · obtain ⟨x, hx⟩ : ∃ x, x = (doL ws a1_0 a1_1 a1_2 a1_3).getD k 0 := ⟨_, rfl⟩
              have f1 := hrow.cell hlt
              have f2 := hW6.old (hcs k hlt)
              have f3 := hW6.old (show X.cell? ⟨w.heap.size, 1, none⟩ = some (.int .i64 a1_1) by rw [HXX.out.1]; simp)
              have lq : ∀ n, Calls Try.prog 16 #[.pointer (some ⟨b, 0, none⟩), .int .i64 k] (wr.drewN n) fun e w' => e = .returned (.int .u32 x) ∧ w' = wr.drewN n := by
                intro n
                have c := load_quiet (hM6.after ((Wrote.refl Nil wr).drewN n)) (k : Int)
                rw [load_at, ← hx] at c
                exact c
              have f4 : (k : Int) < len0 := by omega
              have g0 : decide (len0 ≤ k) = false := by simp; omega
              have g3 : ¬ len0 ≤ k := by omega
              have g1 : decide ((len0 : Int) ≤ (k : Int)) = false := by simp; omega
              rw [← hx] at f1
              by_cases hA : (k : Int) = a1_1
              · have g2 : ((k : Int) != a1_1) = false := by simp [hA]
                have HX := Lib.hid (And.intro hx (And.intro hcs (And.intro hM6 (And.intro hrow (And.intro hA hrw)))))
                clear hx hcs hM6 hrow hA hrw hM4 hW5 t1
                go_wp2
                go_big_quiet ((go_at_call 16; exact Calls.quiet_of_same (lq _)))
                go_wp2
                go_roundw
                case rel => exact ⟨k + 1, by omega, by go_num, HX.out.2.2.1.after ((Wrote.refl Nil wr).drewN _), HX.out.2.2.2.1, hW6.drewN _⟩
                case measure => simp [intOf]; omega
              · have g2 : ((k : Int) != a1_1) = true := by simp [hA]
                have hxz : x = ws.getD k 0 := by rw [hx]; exact doL_other _ _ _ _ _ _ hA
                rw [← hxz] at f2
                have HX := Lib.hid (And.intro hx (And.intro hcs (And.intro hM6 (And.intro hrow (And.intro hxz hrw)))))
                clear hx hcs hM6 hrow hxz hrw hM4 hW5 t1
                go_wp2
                go_big_quiet ((go_at_call 16; exact Calls.quiet_of_same (lq _)))
                go_wp2
                go_roundw
                case rel => exact ⟨k + 1, by omega, by go_num, HX.out.2.2.1.after ((Wrote.refl Nil wr).drewN _), HX.out.2.2.2.1, hW6.drewN _⟩
                case measure => simp [intOf]; omega
          · go_wp2_with (go_at_call 8; refine (awake_any _).mono ?_; rintro e w8 ⟨rfl, hW8⟩)
            go_ret
            exact ⟨rfl, (HXX.out.2.2.1.nil (hW6.nil hW8)).law⟩

/-! the row -/
set_option maxRecDepth 100000 in
theorem lifted (os : Os) (started : os.Started) (H : Type) (enc : TypeId × Value → H) :
    ReturnsInHanded {} Try.checked os 6 .any (Rows.memApartSpec.pre6 enc Try.prog Try.f6 Rows.memApartRow.domain false) (Rows.memApartSpec.post enc Try.prog Try.f6 false true false false) := by
  refine returnsInHanded_of_change (C := Try.checked) own started (by kernel_rfl) Try.func6
    (ChangeSpec.witness6 (enc := enc) (C := Try.checked) false ⟨#[], #[.slice none 0 0, .agg #[.int .i64 0, .int .i64 0, .int .u32 0, .int .u32 0]], []⟩ 8 (by kernel_rfl) (by kernel_rfl) (by kernel_rfl) (by kernel_rfl)) ?_
  intro W base args ds gs before hval0 hW hcnd _
  have hval : ∀ (j : Nat) t v, Try.f6.params[j]? = some t → args[j]? = some v → Value.okWide Try.prog W .any base t v := hval0
  have hW' := hW
  obtain ⟨p, q, hA0, hV, rfl, hfz, hnd⟩ := hW
  have hA : DataW.TrodAll enc Try.prog W 0 (fun _ => true) true Try.f6.params.toList args.toList ds p := hA0
  rw [Try.params6] at hA hval
  obtain ⟨v0, vs0, d0, ds0, p0, q0, hargs, rfl, rfl, h0, r0'⟩ := trodAll_cons hA
  obtain ⟨v1, vs1, d1, ds1, p1, q1, rfl, rfl, rfl, h1, r1'⟩ := trodAll_cons r0'
  obtain ⟨rfl, rfl, rfl⟩ := trodAll_nil r1'
  obtain rfl : args = #[v0, v1] := by cases args; simp_all
  obtain ⟨rfl, rfl⟩ := trodVars_none hV
  have k0 := h0
  have lt0 : ∀ x ∈ p0, x.block < W.heap.size := by obtain ⟨m, hm⟩ := k0; exact DataW.trod_lt m _ _ _ hm
  obtain ⟨s0, len0, cap0, rfl⟩ := okWide_slice Try.underlying30 (hval 0 30 v0 rfl rfl)
  obtain ⟨l0, z0, r0, w0⟩ := open_slice_row Try.underlying30 Try.underlying31 (by kernel_rfl) h0
  have k1 := h1
  have lt1 : ∀ x ∈ p1, x.block < W.heap.size := by obtain ⟨m, hm⟩ := k1; exact DataW.trod_lt m _ _ _ hm
  obtain ⟨zs1, rfl, hl1, hz1⟩ := open_struct_list (ks := [.i64, .i64, .u32, .u32]) Try.underlying33 (by kernel_rfl) (by kernel_rfl) (hval 1 33 v1 rfl rfl) h1
  obtain ⟨a1_0, a1_1, a1_2, a1_3, rfl⟩ := list4 hl1
  clear hA0 hval0
  refine (walk s0 len0 cap0 z0 a1_0 a1_1 a1_2 a1_3 W l0 r0 w0 (hz1 0 _ rfl) (hz1 1 _ rfl) (hz1 2 _ rfl) (hz1 3 _ rfl)).mono fun e W' ⟨he, bel⟩ => ?_
  subst he
  exact ⟨_, rfl, _, _, _, [], _, [], hW', trodAll_mk1 (shut_bool Try.underlying4 _), (trodAll_cons_mk (Below.trod laidOut (by kernel_rfl) (of_decide_eq_true (by kernel_rfl)) k0 bel lt0) (trodAll_cons_mk (Below.trod laidOut (by kernel_rfl) (of_decide_eq_true (by kernel_rfl)) k1 bel lt1) trodAll_mk0)), rfl, bel.frame _, fun h => by cases h⟩

theorem over : Rows.memApartRow.holds Try.pinned (OpenSpec.ofChange Rows.memApartSpec) :=
  OpenClaim.holds_of_wide 6 Try.f6 rfl rfl rfl rfl rfl rfl rfl ⟨rfl, rfl, rfl, rfl, rfl⟩ rfl rfl rfl rfl rfl (by kernel_rfl) Try.func6 (by kernel_rfl)
    (of_decide_eq_true (by kernel_rfl)) (by unfold Func.isWrapper; first | (rw [if_pos (by decide +kernel)]; kernel_rfl) | (rw [if_neg (by decide +kernel)]; exact ⟨rfl, rfl⟩))
    (fun os started H enc _ => lifted os started H enc)

/-- the statement -/
theorem proved : Rows.MemApartSaid := over
#print axioms proved
end Go.Proofs.Ytfokhndlggogeaa.memApart
