/- For every input the Go function SlotsPlays of weighlocklaw11 returns true, and its arguments read afterwards as before. Conditions: none. -/
import Derived.Test.YtiddapikahchkaaRows
import Derived.WalkKit
import Derived.ProofKit
import Derived.OpenShut
import Derived.ChangeOld
import Derived.Below
import Derived.Carry
import Derived.Deep.CutRange
import Derived.BigFrame
import Derived.BigQuiet
import Derived.Test.YtiddapikahchkaaMix
import Derived.Test.YtiddapikahchkaaLockPlays
import Derived.Test.YtiddapikahchkaaSlotsLaw
namespace Go.Proofs.Ytiddapikahchkaa.slotsPlays
open Go.ChangeShapes Go.WideShapes Go.ChangeAt Go.RowKit
set_option linter.unusedVariables false

theorem own : ownKnob Try.prog.godebug = none := by kernel_rfl
theorem laidOut : laidOutB Try.prog = true := by kernel_rfl

/-! the walk -/
/-- both made, the lock not yet used -/
theorem duo_made {w0 X w4 w5 w6 : World} {L : Lp} {M0 : Mp} {n sz z pr : Nat} {v : Int} (hP : LkP w0 X L (newF n n sz z v)) (hM : MlRaw w4 M0 (newSeat n false false) (fun _ => 0) (fun _ => 0)) (hN : M0.n = sz) (hb : M0.base = w4.heap.size) (hn : X.heap.size ≤ M0.r ∧ ∀ k, MF M0 k → X.heap.size ≤ k) (h4 : Wrote Nil X w4) (h5 : Wrote Nil w4 w5) (hr : RefSt w6 w5.heap.size pr (newS n ([v] ++ slotR z sz))) (h6 : Wrote Nil w5 w6) :
    DuoP w0 w6 L { M0 with base := w5.heap.size, pr := pr } (newF n n sz z v) := by
  have s5 := h5.size
  have s6 := h6.size
  have s4 := h4.size
  have hl := hM.low
  have ht := hP.top
  have hM6 := hM.after (h5.nil h6)
  refine ⟨hP.after ((h4.nil h5).nil h6), ⟨fun _ => 0, ⟨hM6.obj, hM6.seat, hM6.pcs, hM6.min, hM6.ne, hM6.off, ?_⟩, hN, fun k _ e => absurd rfl e⟩, hr, ⟨by have := hn.1; dsimp only; omega, fun k hk => by have := hn.2 k hk; omega⟩, ⟨by dsimp only; omega, fun k hk => ?_⟩, ⟨by dsimp only; omega, s6⟩⟩
  · dsimp only
    exact ⟨by omega, by omega, by omega, fun k hk => by have := hl.2.2.2 k hk; omega⟩
  · dsimp only
    rcases hk with hk | hk | hk
    · have hk : k = M0.pc := hk
      omega
    · have hk : k = M0.mn := hk
      omega
    · have := hl.2.2.2 k hk; omega
theorem vals_mem {v : Int} (hv : 0 ≤ v ∧ v < 4294967296) (z sz : Nat) : ∀ y ∈ [v] ++ slotR z sz, 0 ≤ y ∧ y < 4294967296 := by
  intro y hy
  rw [List.mem_append, List.mem_singleton] at hy
  rcases hy with rfl | hy
  · exact hv
  · unfold slotR at hy
    obtain ⟨i, _, rfl⟩ := List.mem_map.1 hy
    split <;> decide
set_option maxRecDepth 100000 in
set_option maxHeartbeats 8000000 in
theorem walk (s0_0 : Option Addr) (len0_0 cap0_0 : Nat) (z0_0 : List Int) (a0_1 : Int) (a0_2 : Int) (s0_3 : Option Addr) (len0_3 cap0_3 : Nat) (z0_3 : Nat → Nat → Int) (w : World) (l0_0 : len0_0 ≤ cap0_0 ∧ cap0_0 ≤ maxLen ∧ (s0_0 = none → cap0_0 = 0)) (r0_0 : RowAt .i64 w s0_0 len0_0 z0_0) (w0_0 : ∀ z ∈ z0_0, (Lit.int .i64 z).wf = true) (w0_1 : (Lit.int .u8 a0_1).wf = true) (w0_2 : (Lit.int .u32 a0_2).wf = true) (l0_3 : len0_3 ≤ cap0_3 ∧ cap0_3 ≤ maxLen ∧ (s0_3 = none → cap0_3 = 0)) (r0_3 : Structs w [.i64, .i64, .i64, .i64] s0_3 len0_3 z0_3) :
    Calls Try.prog 3 #[.agg #[.slice s0_0 len0_0 cap0_0, .int .u8 a0_1, .int .u32 a0_2, .slice s0_3 len0_3 cap0_3]] w fun e w' => e = .returned (.bool true) ∧ Below w.heap.size w w' := by
  obtain ⟨u0, u1⟩ := u8_bd w0_1
  obtain ⟨v0, v1⟩ := u32_bd w0_2
  have hm0 : len0_0 ≤ 9223372036854775807 := by have := l0_0.1; have := l0_0.2.1; unfold maxLen at this; omega
  have hm3 : len0_3 ≤ 9223372036854775807 := by have := l0_3.1; have := l0_3.2.1; unfold maxLen at this; omega
  obtain ⟨sz, rfl⟩ := Int.eq_ofNat_of_zero_le u0
  obtain ⟨X, hX⟩ : ∃ X, X = w.alloc (.cells #[.slice s0_0 len0_0 cap0_0, .int .u8 (sz : Int), .int .u32 a0_2, .slice s0_3 len0_3 cap0_3] 26) := ⟨_, rfl⟩
  have hXb : X.heap[w.heap.size]? = some (.cells #[.slice s0_0 len0_0 cap0_0, .int .u8 (sz : Int), .int .u32 a0_2, .slice s0_3 len0_3 cap0_3] 26 (0, 0)) := by rw [hX]; exact Go.Deep.blk_alloc_new w _
  have b0 : X.cell? ⟨w.heap.size, 0, none⟩ = some (.slice s0_0 len0_0 cap0_0) := (blk_cell hXb 0).trans rfl
  have b1 : X.cell? ⟨w.heap.size, 1, none⟩ = some (.int .u8 (sz : Int)) := (blk_cell hXb 1).trans rfl
  have b2 : X.cell? ⟨w.heap.size, 2, none⟩ = some (.int .u32 a0_2) := (blk_cell hXb 2).trans rfl
  have b3 : X.cell? ⟨w.heap.size, 3, none⟩ = some (.slice s0_3 len0_3 cap0_3) := (blk_cell hXb 3).trans rfl
  have hat : OpsAt w s0_3 len0_3 z0_3 := by
    rcases r0_3.at (by decide) with e | ⟨b2, o2, rfl, hc2⟩
    · exact .inl e
    · exact .inr ⟨b2, o2, rfl, fun i hi j hj => (hc2 i hi j .i64 (by match j, hj with | 0, _ => rfl | 1, _ => rfl | 2, _ => rfl | 3, _ => rfl)).1⟩
  have kX : Wrote Nil w X := by rw [hX]; exact (Wrote.refl _ _).alloc _
  have HX := Lib.hid (And.intro hX (And.intro r0_0 hat))
  clear w0_0 w0_1 w0_2 l0_0 l0_3 r0_3 hXb hat
  go_enter Try.func3, Try.ntmps3
  go_wp2
  rw [← HX.out.1]
  clear hX
  go_big_quiet (fail)
  generalize hY : X.drewN _ = Y
  have kY : Wrote Nil w Y := by rw [← hY]; exact kX.drewN _
  have cF := fine_any (cap := cap0_0) (HX.out.2.1.after kY) hm0 s0_3 len0_3 cap0_3 hm3
  have cZ := fun W => size_any (sz : Int) W
  have HY := Lib.hid kY
  clear b0 b1 b2 b3 hY kX kY r0_0 hm3
  cases hf : fineB len0_0 z0_0 len0_3
  · rw [hf] at cF
    clear hf cZ
    go_wp2_with (first
      | (go_at_call 8; (with_reducible refine cF.mono ?_); rintro e w2 ⟨rfl, rfl⟩)
      | (go_at_call 10; (with_reducible refine (fl_awake _).mono ?_); intro e w2 hq; unfold AwakePost at hq; obtain ⟨rfl, hW⟩ := hq))
    go_ret
    exact ⟨rfl, (HY.out.nil hW).law⟩
  rw [hf] at cF
  obtain ⟨n1, n8, ho, hm⟩ := fineB_no hf
  clear hf
  cases hs : sizeB (sz : Int)
  · rw [hs] at cZ
    clear hs
    go_wp2_with (first
      | (go_at_call 8; (with_reducible refine cF.mono ?_); rintro e w2 ⟨rfl, rfl⟩)
      | (go_at_call 9; (with_reducible refine (cZ _).mono ?_); rintro e w2 ⟨rfl, rfl⟩)
      | (go_at_call 10; (with_reducible refine (fl_awake _).mono ?_); intro e w2 hq; unfold AwakePost at hq; obtain ⟨rfl, hW⟩ := hq))
    go_ret
    exact ⟨rfl, (HY.out.nil hW).law⟩
  rw [hs] at cZ
  by_cases hlt : sz < len0_0
  · clear hs
    go_wp2_with (first
      | (go_at_call 8; (with_reducible refine cF.mono ?_); rintro e w2 ⟨rfl, rfl⟩)
      | (go_at_call 9; (with_reducible refine (cZ _).mono ?_); rintro e w2 ⟨rfl, rfl⟩)
      | (go_at_call 10; (with_reducible refine (fl_awake _).mono ?_); intro e w2 hq; unfold AwakePost at hq; obtain ⟨rfl, hW⟩ := hq))
    go_ret
    exact ⟨rfl, (HY.out.nil hW).law⟩
  rcases HX.out.2.1.at with e0 | ⟨b, o, rfl, hc⟩
  · omega
  have hb : b < w.heap.size := World.block_lt_of_cell? w _ (hc 0 (by omega))
  obtain ⟨z, hz⟩ := Int.eq_ofNat_of_zero_le (Int.emod_nonneg a0_2 (show (sz : Int) ≠ 0 by omega))
  have HH := Lib.hid (And.intro ho (And.intro hb (And.intro hs (And.intro hz (And.intro v0 v1)))))
  have cP := fun W => plnew_any (len0_0 : Int) W
  have hle : len0_0 ≤ sz := by omega
  clear hc ho hb hs hz v0 v1
  have s64 := (size_le HH.out.2.2.1).2
  have sz1 := (size_le HH.out.2.2.1).1
  have hI : OrdI (newF len0_0 len0_0 sz z a0_2) [] := ⟨none, a0_2.toNat, a0_2.toNat, ord_new len0_0 sz z a0_2 n8 hle HH.out.2.2.1 HH.out.2.2.2.2 HH.out.2.2.2.1⟩
  have HI := Lib.hid hI
  clear hI
  go_wp2_with (first
      | (go_at_call 8; (with_reducible refine cF.mono ?_); rintro e w2 ⟨rfl, rfl⟩)
      | (go_at_call 9; (with_reducible refine (cZ _).mono ?_); rintro e w2 ⟨rfl, rfl⟩)
      | (go_at_call 11; (with_reducible refine (cP _).mono ?_); rintro e w1 ⟨q, rfl, hP, hnew, hW1⟩; have H1 := Lib.hid (And.intro hP (And.intro (fun k hk => Nat.le_trans HY.out.size (hnew k hk)) (HY.out.nil hW1))); clear hP hnew hW1)
      | (go_at_call 12; (with_reducible refine (fn_new (z := z) H1.out.1 (HX.out.2.1.after H1.out.2.2) HH.out.1 n1 (by omega) HH.out.2.2.1 hle (Nat.zero_le _) (fun e => by have := H1.out.2.1 _ e; have := HH.out.2.1; omega) HH.out.2.2.2.2 HH.out.2.2.2.1).mono ?_); intro e w2 hq; unfold NewSlotsPost at hq; obtain ⟨L0, q2, he, hR, hl, ha1, ha2, hqq, hP2, hW2, hC2⟩ := hq; obtain ⟨lb, hlb0⟩ : ∃ lb, lb = L0.lb := ⟨_, rfl⟩; rw [← hlb0] at he; subst he; have HB := Lib.hid hlb0; clear hlb0; have cQ := fl_port (w0 := w) (zs := z0_0) H1.out.2.2 H1.out.2.1 n1 (by omega) HH.out.1 HH.out.2.2.1 HH.out.2.2.2.2 hR hl ha1 ha2 hqq hP2 hW2 (blk_lt H1.out.1.obj); clear hR hl ha1 ha2 hqq hP2 hW2 hC2)
      | (go_at_call 13; (with_reducible refine cQ.mono ?_); clear cQ; rintro e w3 ⟨L, rfl, ⟨ha1, ha2, hL⟩, hlb, hhs, _, _⟩; rw [← HB.out] at hlb; clear HB; subst hlb; have HA := Lib.hid (And.intro ha1 (And.intro ha2 hhs)); have H2 := Lib.hid hL; clear ha1 ha2 hL hhs)
      | (go_at_call 14; (with_reducible refine (ml_homes (cp := cap0_0) (HX.out.2.1.after H2.out.wr) n1 (by omega) sz s64).mono ?_); intro e w4 hq; unfold HomesNewPost at hq; obtain ⟨hg, hcap, rfl, hrow, hW4⟩ := hq; have HR4 := Lib.hid (And.intro hrow (H2.out.after hW4)); clear hrow hW4))
  clear cF cZ cP H1
  go_loopw [75] (fun i wr => wr = w4 ∧ ∃ k : Nat, k ≤ sz + 1 ∧ i = .int .i64 k) (fun i _ => sz + 1 - (intOf i).toNat)
  case atStart => exact ⟨by first | rfl | trivial, 0, Nat.zero_le _, rfl⟩
  case round =>
    obtain ⟨rfl, k, hk, rfl⟩ := hrel
    by_cases hlt2 : k < sz + 1
    · have c0 : wr.cell? ⟨hg, 0 + k, none⟩ = some (.int .i64 ((homesS z0_0 len0_0 sz).getD k 0)) := by
        rcases HR4.out.1.at with h0 | ⟨b', o', e, hc⟩
        · omega
        · cases e; exact hc k hlt2
      rw [Nat.zero_add] at c0
      have cH := home_any HR4.out.2.port.mem (k : Int)
      rw [HA.out.2.2, load_at] at cH
      have p0 := HR4.out.2.port.cell0
      generalize (homesS z0_0 len0_0 sz).getD k 0 = y at c0 cH
      go_wp2_with (first | (go_at_call 15; (with_reducible refine cH.mono ?_); rintro e w5 ⟨rfl, rfl⟩))
      go_roundw
      case rel => exact ⟨by first | rfl | trivial, k + 1, by omega, by go_num⟩
      case measure => simp [intOf]; omega
    · obtain rfl : k = sz + 1 := by omega
      have cN := ml_new len0_0 sz (by omega) 0 wr
      go_wp2_with (first
        | (go_at_call 17; (with_reducible refine cN.mono ?_); intro e w5 hq; unfold NewMlPost at hq; obtain ⟨M0, he, hM0, ham, han, hbm, hnm, hW5⟩ := hq; obtain ⟨mr, hmr⟩ : ∃ mr, mr = M0.r := ⟨_, rfl⟩; rw [← hmr] at he; subst he; have HMR := Lib.hid hmr; have HM0 := Lib.hid (And.intro hM0 (And.intro ham (And.intro hbm (And.intro hnm (And.intro hW5 han))))); have cW := ml_words w5 a0_2 HH.out.2.2.2.2 sz z sz1 s64 HH.out.2.2.2.1; clear hmr hM0 ham han hbm hnm hW5 cN)
        | (go_at_call 19; (with_reducible refine cW.mono ?_); intro e w6 hq; unfold WordsNewPost at hq; obtain ⟨g, gc, rfl, hrw, hW6⟩ := hq; have cR := rnew_any (c := gc) (n := len0_0) hrw (vals_mem HH.out.2.2.2.2 z sz) (by omega) (by omega); have H5 := Lib.hid hW6; clear hrw hW6 cW)
        | (go_at_call 18; (with_reducible refine cR.mono ?_); intro e w7 hq; unfold RNewPost at hq; obtain ⟨pr, rfl, hrs, hW7⟩ := hq; have hDP := duo_made HR4.out.2 HM0.out.1 HM0.out.2.2.2.2.2 HM0.out.2.2.1 HM0.out.2.2.2.1 HM0.out.2.2.2.2.1 H5.out hrs hW7; have cPl := plays_any hDP HI.out HM0.out.2.1 HA.out.1 HA.out.2.1 n1 rfl (cap := cap0_3) HX.out.2.2 hm; dsimp only at cPl; rw [← HMR.out] at cPl; have H6 := Lib.hid hW7; clear hDP hrs hW7 cR)
        | (go_at_call 16; (with_reducible refine cPl.mono ?_); intro e w8 hq; have hW8 := hq.wr; unfold PlaysPost at hq; obtain ⟨rfl, _⟩ := hq; have H4 := Lib.hid hW8; clear hW8 cPl)
        | (go_at_call 10; (with_reducible refine (fl_awake _).mono ?_); intro e w9 hq; unfold AwakePost at hq; obtain ⟨rfl, hW9⟩ := hq))
      go_ret
      exact ⟨rfl, (H4.out.nil hW9).law⟩

/-! the row -/
set_option maxRecDepth 100000 in
theorem lifted (os : Os) (started : os.Started) (H : Type) (enc : TypeId × Value → H) :
    ReturnsInHanded {} Try.checked os 3 .any (Rows.slotsPlaysSpec.pre6 enc Try.prog Try.f3 Rows.slotsPlaysRow.domain false) (Rows.slotsPlaysSpec.post enc Try.prog Try.f3 false true false false) := by
  refine returnsInHanded_of_change (C := Try.checked) own started (by kernel_rfl) Try.func3
    (ChangeSpec.witness6 (enc := enc) (C := Try.checked) false ⟨#[], #[.agg #[.slice none 0 0, .int .u8 0, .int .u32 0, .slice none 0 0]], []⟩ 8 (by kernel_rfl) (by kernel_rfl) (by kernel_rfl) (by kernel_rfl)) ?_
  intro W base args ds gs before hval0 hW hcnd _
  have hval : ∀ (j : Nat) t v, Try.f3.params[j]? = some t → args[j]? = some v → Value.okWide Try.prog W .any base t v := hval0
  have hW' := hW
  obtain ⟨p, q, hA0, hV, rfl, hfz, hnd⟩ := hW
  have hA : DataW.TrodAll enc Try.prog W 0 (fun _ => true) true Try.f3.params.toList args.toList ds p := hA0
  rw [Try.params3] at hA hval
  obtain ⟨v0, vs0, d0, ds0, p0, q0, hargs, rfl, rfl, h0, r0'⟩ := trodAll_cons hA
  obtain ⟨rfl, rfl, rfl⟩ := trodAll_nil r0'
  obtain rfl : args = #[v0] := by cases args; simp_all
  obtain ⟨rfl, rfl⟩ := trodVars_none hV
  have k0 := h0
  have lt0 : ∀ x ∈ p0, x.block < W.heap.size := by obtain ⟨m, hm⟩ := k0; exact DataW.trod_lt m _ _ _ hm
  obtain ⟨cs0, rfl, hl0, hf0⟩ := open_struct_fields (m := 4) Try.underlying26 (by kernel_rfl) (by kernel_rfl) (hval 0 26 v0 rfl rfl) h0
  obtain ⟨c0_0, c0_1, c0_2, c0_3, rfl⟩ := list4 hl0
  obtain ⟨n0_0, y0_0, e0_0⟩ := hf0 0 _ _ rfl rfl
  obtain ⟨s0_0, len0_0, cap0_0, rfl, g0_0⟩ := fld_slice Try.underlying22 e0_0
  obtain ⟨l0_0, z0_0, r0_0, w0_0⟩ := open_slice_row Try.underlying22 Try.underlying3 (by kernel_rfl) g0_0
  obtain ⟨n0_1, y0_1, e0_1⟩ := hf0 1 _ _ rfl rfl
  obtain ⟨a0_1, rfl, w0_1⟩ := fld_int Try.underlying5 e0_1
  obtain ⟨n0_2, y0_2, e0_2⟩ := hf0 2 _ _ rfl rfl
  obtain ⟨a0_2, rfl, w0_2⟩ := fld_int Try.underlying23 e0_2
  obtain ⟨n0_3, y0_3, e0_3⟩ := hf0 3 _ _ rfl rfl
  obtain ⟨s0_3, len0_3, cap0_3, rfl, g0_3⟩ := fld_slice Try.underlying24 e0_3
  obtain ⟨l0_3, z0_3, r0_3⟩ := open_slice_ints (ks := [.i64, .i64, .i64, .i64]) Try.underlying24 Try.underlying55 (by kernel_rfl) (by kernel_rfl) g0_3
  clear hA0 hval0
  refine (walk s0_0 len0_0 cap0_0 z0_0 a0_1 a0_2 s0_3 len0_3 cap0_3 z0_3 W l0_0 r0_0 w0_0 w0_1 w0_2 l0_3 r0_3).mono fun e W' ⟨he, bel⟩ => ?_
  subst he
  exact ⟨_, rfl, _, _, _, [], _, [], hW', trodAll_mk1 (shut_bool Try.underlying4 _), (trodAll_cons_mk (Below.trod laidOut (by kernel_rfl) (of_decide_eq_true (by kernel_rfl)) k0 bel lt0) trodAll_mk0), rfl, bel.frame _, fun h => by cases h⟩

theorem over : Rows.slotsPlaysRow.holds Try.pinned (OpenSpec.ofChange Rows.slotsPlaysSpec) :=
  OpenClaim.holds_of_wide 3 Try.f3 rfl rfl rfl rfl rfl rfl rfl ⟨rfl, rfl, rfl, rfl, rfl⟩ rfl rfl rfl rfl rfl (by kernel_rfl) Try.func3 (by kernel_rfl)
    (of_decide_eq_true (by kernel_rfl)) (by unfold Func.isWrapper; first | (rw [if_pos (by decide +kernel)]; kernel_rfl) | (rw [if_neg (by decide +kernel)]; exact ⟨rfl, rfl⟩))
    (fun os started H enc _ => lifted os started H enc)

/-- the statement -/
theorem proved : Rows.SlotsPlaysSaid := over
#print axioms proved
end Go.Proofs.Ytiddapikahchkaa.slotsPlays
