/- For every input the Go function HierPlays of weighlocklaw15 returns true, and its arguments read afterwards as before. Conditions: none. -/
import Derived.Test.YteacdcdjdbobnaaGreatRows
import Derived.WalkKit
import Derived.ProofKit
import Derived.OpenShut
import Derived.ChangeOld
import Derived.Below
import Derived.Carry
import Derived.BigFrame
import Derived.BigQuiet
import Derived.Deep.CutRange
import Derived.Deep.CutBlock
import Derived.Test.YteacdcdjdbobnaaGreatLockPlays
import Derived.Test.YteacdcdjdbobnaaGreatHierRnew
import Derived.Test.YteacdcdjdbobnaaGreatHierNode
namespace Go.Proofs.YteacdcdjdbobnaaGreat.hierPlays
open Go.ChangeShapes Go.WideShapes Go.ChangeAt Go.RowKit
set_option linter.unusedVariables false

theorem own : ownKnob Tryz.prog.godebug = none := by kernel_rfl
theorem laidOut : laidOutB Tryz.prog = true := by kernel_rfl

/-! the walk -/
theorem words_wf (n : Nat) (h : n ≤ 64) : ∀ z ∈ wordsH n, 0 ≤ z ∧ z < 4294967296 := by
  intro z hz
  unfold wordsH at hz
  simp only [List.mem_append, List.mem_singleton, List.mem_replicate] at hz
  omega
/-- both made, the lock used over its port -/
theorem duo_made {w0 X w4 w5 w6 : World} {L : Lp} {M0 : Mp} {zs : List Int} {n pr : Nat} (hP : LkS w0 X L (newF zs n n)) (hM : MlRaw w4 M0 (newSeat n false false) (fv (newF zs n n))) (hb : M0.base = w4.heap.size) (hn : X.heap.size ≤ M0.r ∧ ∀ k, MF M0 k → X.heap.size ≤ k) (h4 : Wrote Nil X w4) (h5 : Wrote Nil w4 w5) (hr : RefSt w6 w5.heap.size pr (newS n (wordsH n))) (h6 : Wrote Nil w5 w6) :
    DuoP w0 w6 L { M0 with base := w5.heap.size, pr := pr } (newF zs n n) := by
  have s5 := h5.size
  have s6 := h6.size
  have s4 := h4.size
  have hl := hM.low
  have ht := hP.lk.top
  have hM6 := hM.after (h5.nil h6)
  refine ⟨hP.after ((h4.nil h5).nil h6), ⟨_, ⟨hM6.obj, hM6.seat, hM6.rows, hM6.ne, hM6.off, ?_⟩, rfl⟩, hr, ⟨by have := hn.1; dsimp only; omega, fun k hk => by have := hn.2 k hk; omega⟩, ⟨by dsimp only; omega, fun k hk => ?_⟩, ⟨by dsimp only; omega, s6⟩⟩
  · dsimp only
    exact ⟨by omega, fun i hi => by have := hl.2.1 i hi; omega, fun k hk => by have := hl.2.2 k hk; omega⟩
  · have := hM.low2 (M := M0) hk
    dsimp only
    omega
set_option maxRecDepth 100000 in
set_option maxHeartbeats 8000000 in
theorem walk (s0 : Option Addr) (len0 cap0 : Nat) (z0 : List Int) (s1 : Option Addr) (len1 cap1 : Nat) (z1 : Nat → Nat → Int) (w : World) (l0 : len0 ≤ cap0 ∧ cap0 ≤ maxLen ∧ (s0 = none → cap0 = 0)) (r0 : RowAt .i64 w s0 len0 z0) (w0 : ∀ z ∈ z0, (Lit.int .i64 z).wf = true) (l1 : len1 ≤ cap1 ∧ cap1 ≤ maxLen ∧ (s1 = none → cap1 = 0)) (r1 : Structs w [.i64, .i64, .i64, .i64] s1 len1 z1) :
    Calls Tryz.prog 3 #[.slice s0 len0 cap0, .slice s1 len1 cap1] w fun e w' => e = .returned (.bool true) ∧ Below w.heap.size w w' := by
  have hm0 : len0 ≤ 9223372036854775807 := by have := l0.1; have := l0.2.1; unfold maxLen at this; omega
  have hm1 : len1 ≤ 9223372036854775807 := by have := l1.1; have := l1.2.1; unfold maxLen at this; omega
  have hat : OpsAt w s1 len1 z1 := by
    rcases r1.at (by decide) with e | ⟨b2, o2, rfl, hc2⟩
    · exact .inl e
    · exact .inr ⟨b2, o2, rfl, fun i hi j hj => (hc2 i hi j .i64 (by match j, hj with | 0, _ => rfl | 1, _ => rfl | 2, _ => rfl | 3, _ => rfl)).1⟩
  have cF := fine_any (cap := cap0) r0 hm0 s1 len1 cap1 (by omega)
  cases hf : fineB len0 z0 len1
  · rw [hf] at cF
    clear r0 hf w0 l0 l1 r1 hat
    go_enter Tryz.func3, Tryz.ntmps3
    go_wp2_with (first
      | (go_at_call 4; with_reducible refine cF.mono ?_; rintro e w2 ⟨rfl, rfl⟩)
      | (go_at_call 5; with_reducible refine (fl_awake _).mono ?_; intro e w2 hq; unfold AwakePost at hq; obtain ⟨rfl, hW⟩ := hq))
    go_ret
    exact ⟨rfl, hW.law⟩
  rw [hf] at cF
  obtain ⟨n1, n8, ho, hm⟩ := fineB_no hf
  rcases r0.at with e0 | ⟨b, o, rfl, hc⟩
  · omega
  have hb : b < w.heap.size := World.block_lt_of_cell? w _ (hc 0 (by omega))
  have HH := Lib.hid (And.intro r0 (And.intro ho (And.intro hb hat)))
  have hM := fun (W : World) (k : Wrote Nil w W) => fl_made (cap := cap0) (r0.after k) (Nat.lt_of_lt_of_le hb k.size) ho n1 (by omega)
  have HM := Lib.hid hM
  clear r0 hf w0 l0 l1 r1 hat hc ho hb hM
  go_enter Tryz.func3, Tryz.ntmps3
  go_wp2_with (first
    | (go_at_call 4; with_reducible refine cF.mono ?_; rintro e w2 ⟨rfl, rfl⟩)
    | (go_at_call 6; (with_reducible refine (HM.out _ (Wrote.refl Nil w)).mono ?_); intro e w1 hq; unfold MdPost at hq; obtain ⟨L, rfl, hL, h1, h2, hhs⟩ := hq; have HA := Lib.hid (And.intro h1 (And.intro h2 hhs)); have H2 := Lib.hid hL; clear hL h1 h2 hhs)
    | (go_at_call 7; (with_reducible refine (ml_homes (cp := cap0) (HH.out.1.after H2.out.wr) (Nat.lt_of_lt_of_le HH.out.2.2.1 H2.out.wr.size) n1 (by omega)).mono ?_); intro e w4 hq; unfold HomesNewPost at hq; obtain ⟨hg, hcap, rfl, hrow, hW4⟩ := hq; have HR4 := Lib.hid (And.intro hrow (H2.out.after hW4)); clear hrow hW4))
  clear cF HM
  go_loopw [30] (fun i wr => wr = w4 ∧ ∃ k : Nat, k ≤ len0 + 10 ∧ i = .int .i64 k) (fun i _ => len0 + 10 - (intOf i).toNat)
  case atStart => exact ⟨by first | rfl | trivial, 0, Nat.zero_le _, rfl⟩
  case round =>
    obtain ⟨rfl, k, hk, rfl⟩ := hrel
    by_cases hlt2 : k < len0 + 10
    · have c0 : wr.cell? ⟨hg, 0 + k, none⟩ = some (.int .i64 ((homesH z0).getD k 0)) := by
        rcases HR4.out.1.at with h0 | ⟨b', o', e, hc⟩
        · omega
        · cases e; exact hc k hlt2
      rw [Nat.zero_add] at c0
      have cH := home_any HR4.out.2.lk.port.mem (k : Int)
      rw [HA.out.2.2, load_at] at cH
      have p0 := HR4.out.2.lk.port.cell0
      generalize (homesH z0).getD k 0 = y at c0 cH
      go_wp2_with (first | (go_at_call 8; (with_reducible refine cH.mono ?_); rintro e w5 ⟨rfl, rfl⟩))
      go_roundw
      case rel => exact ⟨by first | rfl | trivial, k + 1, by omega, by go_num⟩
      case measure => simp [intOf]; omega
    · obtain rfl : k = len0 + 10 := by omega
      have cN := ml_new (cp := cap0) (HH.out.1.after HR4.out.2.wr) n1 (by omega) 0
      go_wp2_with (first
        | (go_at_call 9; (with_reducible refine cN.mono ?_); intro e w5 hq; unfold NewMlPost at hq; obtain ⟨M0, he, hM0, ham, hbm, hnm, hW5⟩ := hq; obtain ⟨mr, hmr⟩ : ∃ mr, mr = M0.r := ⟨_, rfl⟩; rw [← hmr] at he; subst he; have HMR := Lib.hid hmr; have HM0 := Lib.hid (And.intro hM0 (And.intro ham (And.intro hbm (And.intro hnm hW5)))); have cW := ml_words len0 n1 (by omega) w5; clear hmr hM0 ham hbm hnm hW5 cN)
        | (go_at_call 12; (with_reducible refine cW.mono ?_); intro e w6 hq; unfold WordsMlPost at hq; obtain ⟨wg, rfl, hrw, hW6⟩ := hq; have cR := rnew_any (c := len0 + 10) (n := len0) hrw (words_wf len0 (by omega)) (by omega) (by omega); have HW6 := Lib.hid hW6; clear hrw hW6 cW)
        | (go_at_call 11; (with_reducible refine cR.mono ?_); intro e w7 hq; unfold RNewPost at hq; obtain ⟨pr, rfl, hrs, hW7⟩ := hq; have hDP := duo_made HR4.out.2 HM0.out.1 HM0.out.2.2.1 HM0.out.2.2.2.1 HM0.out.2.2.2.2 HW6.out hrs hW7; have cPl := plays_any hDP ⟨none, [], fun _ => [], ord_new z0 len0 n8 HH.out.2.1, rfl⟩ HM0.out.2.1 HA.out.1 HA.out.2.1 n1 rfl (cap := cap1) HH.out.2.2.2 hm; dsimp only at cPl; rw [← HMR.out] at cPl; clear hDP hrs hW7 cR)
        | (go_at_call 10; (with_reducible refine cPl.mono ?_); intro e w8 hq; unfold PlaysPost at hq; obtain ⟨rfl, f, W, hD8, hO8, hf8⟩ := hq; have H8 := Lib.hid (And.intro hD8 hf8); clear hD8 hO8 hf8 cPl))
      have hfn : f.s.n = len0 := H8.out.2
      obtain ⟨ah, hraw, hah⟩ := H8.out.1.ml.raw
      have c3 := hraw.cell4
      have cn := fun (k : Nat) (h : k < len0) => (show w8.cell? ⟨M0.rw 2, k, none⟩ = some (.int .i64 (f.nd k)) from by have := (hraw.rows 2 (by decide)).cell (k := k) (by rw [hfn]; exact h); rw [hah] at this; exact this)
      rw [hfn] at c3
      dsimp only at c3 cn
      generalize M0.rw 2 = nb at c3 cn
      generalize M0.nc = nc at c3
      have HL := Lib.hid H8.out.1.ls
      have HN := Lib.hid (And.intro cn hfn)
      clear H8 hraw hah HM0 HMR cn hfn
      have HC := Lib.hid c3
      clear c3
      go_loopw [62] (fun v86 wr2 => Wrote Nil w8 wr2 ∧ ∃ m : Nat, m ≤ len0 ∧ v86 = .int .i64 m) (fun v86 _ => len0 - (intOf v86).toNat)
      case atStart => exact ⟨Wrote.refl _ _, 0, Nat.zero_le _, rfl⟩
      case round =>
        obtain ⟨hW2, m, hm8, rfl⟩ := hrel
        by_cases hlt3 : m < len0
        · have cn := hW2.old (HN.out.1 m hlt3)
          have c3 := hW2.old HC.out
          have eN : f.nodeI (m : Int) = f.nd m := by unfold FL.nodeI; rw [if_pos (by rw [HN.out.2]; omega), Int.toNat_natCast]
          have cA := fun u => ls_node (HL.out.after (hW2.nil ((Wrote.refl Nil wr).drewN u))) (m : Int)
          rw [eN] at cA
          have HQ := Lib.hid hW2
          generalize f.nd m = y at cA cn
          clear eN hW2
          have hmI : (m : Int) < len0 := by omega
          go_wp2
          go_big_quiet ((go_at_call 13; with_reducible exact Calls.quiet_of_same ((cA _).mono fun _ _ q => ⟨q.1, q.2.symm⟩)))
          generalize hX : wr.drewN _ = X
          have HX := Lib.hid (HQ.out.nil (by rw [← hX]; exact (Wrote.refl Nil wr).drewN _ : Wrote Nil wr X))
          clear hX c3 cn cA
          go_wp2
          go_roundw
          case rel => exact ⟨HX.out, m + 1, by omega, by go_num⟩
          case measure => simp [intOf]; omega
        · obtain rfl : m = len0 := by omega
          have e1 : f.nodeI (-1) = -1 := by unfold FL.nodeI; rw [if_neg (by omega)]
          have hL := HL.out.after hW2
          have c1 := ls_node hL (-1)
          rw [e1] at c1
          have HW := Lib.hid hL.wr
          clear e1 HL HN hL hW2
          go_wp2_with (first
            | (go_at_call 13; (with_reducible refine c1.mono ?_); rintro e w6 ⟨rfl, rfl⟩)
            | (go_at_call 5; (with_reducible refine (fl_awake _).mono ?_); intro e w9 hq; unfold AwakePost at hq; obtain ⟨rfl, hW9⟩ := hq))
          go_ret
          exact ⟨rfl, (HW.out.nil hW9).law⟩

/-! the row -/
set_option maxRecDepth 100000 in
theorem lifted (os : Os) (started : os.Started) (H : Type) (enc : TypeId × Value → H) :
    ReturnsInHanded {} Tryz.checked os 3 .any (Rows.hierPlaysSpec.pre6 enc Tryz.prog Tryz.f3 Rows.hierPlaysRow.domain false) (Rows.hierPlaysSpec.post enc Tryz.prog Tryz.f3 false true false false) := by
  refine returnsInHanded_of_change (C := Tryz.checked) own started (by kernel_rfl) Tryz.func3
    (ChangeSpec.witness6 (enc := enc) (C := Tryz.checked) false ⟨#[], #[.slice none 0 0, .slice none 0 0], []⟩ 8 (by kernel_rfl) (by kernel_rfl) (by kernel_rfl) (by kernel_rfl)) ?_
  intro W base args ds gs before hval0 hW hcnd _
  have hval : ∀ (j : Nat) t v, Tryz.f3.params[j]? = some t → args[j]? = some v → Value.okWide Tryz.prog W .any base t v := hval0
  have hW' := hW
  obtain ⟨p, q, hA0, hV, rfl, hfz, hnd⟩ := hW
  have hA : DataW.TrodAll enc Tryz.prog W 0 (fun _ => true) true Tryz.f3.params.toList args.toList ds p := hA0
  rw [Tryz.params3] at hA hval
  obtain ⟨v0, vs0, d0, ds0, p0, q0, hargs, rfl, rfl, h0, r0'⟩ := trodAll_cons hA
  obtain ⟨v1, vs1, d1, ds1, p1, q1, rfl, rfl, rfl, h1, r1'⟩ := trodAll_cons r0'
  obtain ⟨rfl, rfl, rfl⟩ := trodAll_nil r1'
  obtain rfl : args = #[v0, v1] := by cases args; simp_all
  obtain ⟨rfl, rfl⟩ := trodVars_none hV
  have k0 := h0
  have lt0 : ∀ x ∈ p0, x.block < W.heap.size := by obtain ⟨m, hm⟩ := k0; exact DataW.trod_lt m _ _ _ hm
  obtain ⟨s0, len0, cap0, rfl⟩ := okWide_slice Tryz.underlying22 (hval 0 22 v0 rfl rfl)
  obtain ⟨l0, z0, r0, w0⟩ := open_slice_row Tryz.underlying22 Tryz.underlying3 (by kernel_rfl) h0
  have k1 := h1
  have lt1 : ∀ x ∈ p1, x.block < W.heap.size := by obtain ⟨m, hm⟩ := k1; exact DataW.trod_lt m _ _ _ hm
  obtain ⟨s1, len1, cap1, rfl⟩ := okWide_slice Tryz.underlying23 (hval 1 23 v1 rfl rfl)
  obtain ⟨l1, z1, r1⟩ := open_slice_ints (ks := [.i64, .i64, .i64, .i64]) Tryz.underlying23 Tryz.underlying73 (by kernel_rfl) (by kernel_rfl) h1
  clear hA0 hval0
  refine (walk s0 len0 cap0 z0 s1 len1 cap1 z1 W l0 r0 w0 l1 r1).mono fun e W' ⟨he, bel⟩ => ?_
  subst he
  exact ⟨_, rfl, _, _, _, [], _, [], hW', trodAll_mk1 (shut_bool Tryz.underlying4 _), (trodAll_cons_mk (Below.trod laidOut (by kernel_rfl) (of_decide_eq_true (by kernel_rfl)) k0 bel lt0) (trodAll_cons_mk (Below.trod laidOut (by kernel_rfl) (of_decide_eq_true (by kernel_rfl)) k1 bel lt1) trodAll_mk0)), rfl, bel.frame _, fun h => by cases h⟩

theorem over : Rows.hierPlaysRow.holds Tryz.pinned (OpenSpec.ofChange Rows.hierPlaysSpec) :=
  OpenClaim.holds_of_wide 3 Tryz.f3 rfl rfl rfl rfl rfl rfl rfl ⟨rfl, rfl, rfl, rfl, rfl⟩ rfl rfl rfl rfl rfl (by kernel_rfl) Tryz.func3 (by kernel_rfl)
    (of_decide_eq_true (by kernel_rfl)) (by unfold Func.isWrapper; first | (rw [if_pos (by decide +kernel)]; kernel_rfl) | (rw [if_neg (by decide +kernel)]; exact ⟨rfl, rfl⟩))
    (fun os started H enc _ => lifted os started H enc)

/-- the statement -/
theorem proved : Rows.HierPlaysSaid := over
#print axioms proved
end Go.Proofs.YteacdcdjdbobnaaGreat.hierPlays
