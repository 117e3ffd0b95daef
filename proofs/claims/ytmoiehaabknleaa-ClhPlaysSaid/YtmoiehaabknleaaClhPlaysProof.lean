/- For every input the Go function ClhPlays of weighlocklaw12 returns true, and its arguments read afterwards as before. Conditions: none. -/
import Derived.Test.YtmoiehaabknleaaRows
import Derived.WalkKit
import Derived.ProofKit
import Derived.OpenShut
import Derived.ChangeOld
import Derived.Below
import Derived.Carry
import Derived.BigFrame
import Derived.BigQuiet
import Derived.Deep.CutRange
import Derived.Deep.CutBlock
import Derived.Test.YtmoiehaabknleaaLockOrd
import Derived.Test.YtmoiehaabknleaaLockPlays
import Derived.Test.YtmoiehaabknleaaClhLaw
namespace Go.Proofs.Ytmoiehaabknleaa.clhPlays
open Go.ChangeShapes Go.WideShapes Go.ChangeAt Go.RowKit
set_option linter.unusedVariables false

theorem own : ownKnob Try.prog.godebug = none := by kernel_rfl
theorem laidOut : laidOutB Try.prog = true := by kernel_rfl

/-! the walk -/
/-- both made, the lock not yet used -/
theorem duo_made {w0 X w4 w5 w6 : World} {L : Lp} {M0 : Mp} {n pr : Nat} (hP : LkP w0 X L (newF n n)) (hM : MlRaw w4 M0 (newSeat n false true) (fun _ => 0) (nodeK n) (fun _ => 0)) (hb : M0.base = w4.heap.size) (hn : X.heap.size ≤ M0.r ∧ ∀ k, MF M0 k → X.heap.size ≤ k) (h4 : Wrote Nil X w4) (h5 : Wrote Nil w4 w5) (hr : RefSt w6 w5.heap.size pr (newS n (zerosC n))) (h6 : Wrote Nil w5 w6) :
    DuoP w0 w6 L { M0 with base := w5.heap.size, pr := pr } (newF n n) := by
  have s5 := h5.size
  have s6 := h6.size
  have s4 := h4.size
  have hl := hM.low
  have ht := hP.top
  have hM6 := hM.after (h5.nil h6)
  refine ⟨hP.after ((h4.nil h5).nil h6), ⟨fun _ => 0, ⟨hM6.obj, hM6.seat, hM6.pcs, hM6.nds, hM6.ahs, hM6.ne, hM6.off, ?_⟩, fun k _ e => by exact absurd e (by show ¬ (0 : Int) = 2; omega)⟩, hr, ⟨by have := hn.1; dsimp only; omega, fun k hk => by have := hn.2 k hk; omega⟩, ⟨by dsimp only; omega, fun k hk => ?_⟩, ⟨by dsimp only; omega, s6⟩⟩
  · dsimp only
    exact ⟨by omega, by omega, by omega, by omega, fun k hk => by have := hl.2.2.2.2 k hk; omega⟩
  · have := hM.low2 (M := M0) hk
    dsimp only
    omega
theorem zeros_row (w : World) (n : Nat) : RowAt .u32 (w.alloc (.cells (rowA (n + 2) fun _ => .int .u32 0) 64)) (some ⟨w.heap.size, 0, none⟩) (n + 2) (zerosC n) := by
  refine ⟨zerosC_len n, (fun e => by cases e), fun b hb j hj => ?_⟩
  cases hb
  have e : (Addr.add ⟨w.heap.size, 0, none⟩ j) = ⟨w.heap.size, j, none⟩ := by
    simp [Addr.add]
    exact fun e => e.symm
  rw [e, blk_cell (Go.Deep.blk_alloc_new w _), zerosC_at]
  exact rowA_at _ hj
theorem zeros_rng (n : Nat) : ∀ z ∈ zerosC n, 0 ≤ z ∧ z < 4294967296 := by
  intro z hz
  have e : z = 0 := by
    unfold zerosC at hz
    rcases List.mem_append.1 hz with h | h
    · simpa using h
    · exact (List.mem_replicate.1 h).2
  omega
set_option maxRecDepth 100000 in
set_option maxHeartbeats 8000000 in
theorem walk (s0 : Option Addr) (len0 cap0 : Nat) (z0 : List Int) (s1 : Option Addr) (len1 cap1 : Nat) (z1 : Nat → Nat → Int) (w : World) (l0 : len0 ≤ cap0 ∧ cap0 ≤ maxLen ∧ (s0 = none → cap0 = 0)) (r0 : RowAt .i64 w s0 len0 z0) (w0 : ∀ z ∈ z0, (Lit.int .i64 z).wf = true) (l1 : len1 ≤ cap1 ∧ cap1 ≤ maxLen ∧ (s1 = none → cap1 = 0)) (r1 : Structs w [.i64, .i64, .i64, .i64] s1 len1 z1) :
    Calls Try.prog 3 #[.slice s0 len0 cap0, .slice s1 len1 cap1] w fun e w' => e = .returned (.bool true) ∧ Below w.heap.size w w' := by
  have hm0 : len0 ≤ 9223372036854775807 := by have := l0.1; have := l0.2.1; unfold maxLen at this; omega
  have hm1 : len1 ≤ 9223372036854775807 := by have := l1.1; have := l1.2.1; unfold maxLen at this; omega
  have hat : OpsAt w s1 len1 z1 := by
    rcases r1.at (by decide) with e | ⟨b2, o2, rfl, hc2⟩
    · exact .inl e
    · exact .inr ⟨b2, o2, rfl, fun i hi j hj => (hc2 i hi j .i64 (by match j, hj with | 0, _ => rfl | 1, _ => rfl | 2, _ => rfl | 3, _ => rfl)).1⟩
  have cF := fine_any (cap := cap0) r0 hm0 s1 len1 cap1 (by omega)
  cases hf : fineB len0 z0 len1
  · rw [hf] at cF
    clear r0 hf w0 l0 l1 r1 hat
    go_enter Try.func3, Try.ntmps3
    go_wp2_with (first
      | (go_at_call 8; with_reducible refine cF.mono ?_; rintro e w2 ⟨rfl, rfl⟩)
      | (go_at_call 9; with_reducible refine (fl_awake _).mono ?_; intro e w2 hq; unfold AwakePost at hq; obtain ⟨rfl, hW⟩ := hq))
    go_ret
    exact ⟨rfl, hW.law⟩
  rw [hf] at cF
  obtain ⟨n1, n8, ho, hm⟩ := fineB_no hf
  rcases r0.at with e0 | ⟨b, o, rfl, hc⟩
  · omega
  have hb : b < w.heap.size := World.block_lt_of_cell? w _ (hc 0 (by omega))
  have HH := Lib.hid (And.intro r0 (And.intro ho (And.intro hb hat)))
  have cP := fun W => plnew_any (len0 : Int) W
  clear r0 hf w0 l0 l1 r1 hat hc ho hb
  go_enter Try.func3, Try.ntmps3
  obtain ⟨i0, hi, hz0, hz1, hz2⟩ := info_parts info_u32
  have hwn : IntKind.i64.wrap ((len0 : Int) + 2) = (len0 : Int) + 2 := by rw [IntKind.wrap_i64]; omega
  have hmk : ∀ w : World, (Instr.makeSlice 46 (.int .i64 ((len0 : Int) + 2)) (.int .i64 ((len0 : Int) + 2))).run Try.prog w = .ok (.slice (some ⟨w.heap.size, 0, none⟩) (len0 + 2) (len0 + 2)) (w.alloc (.cells (rowA (len0 + 2) fun _ => .int .u32 0) 64)) := by
    intro w
    have h := Go.run_make (P := Try.prog) w 46 64 i0 _ Try.underlying46 hi hz0 .i64 .i64 ((len0 : Int) + 2) ((len0 : Int) + 2) (by omega) (by omega) (by rw [hz2]; omega) (by omega)
    rw [hz1] at h
    rw [show ((len0 : Int) + 2).toNat = len0 + 2 by omega] at h
    rw [show madeCells (Value.int .u32 0).cells ((len0 + 2) * 1) = rowA (len0 + 2) (fun _ => .int .u32 0) from made_row (.int .u32 0) (len0 + 2)] at h
    exact h
  have HMK := Lib.hid (And.intro hmk hwn)
  clear hmk hwn hi hz0 hz1 hz2
  go_wp2_with (first
    | (go_at_call 8; with_reducible refine cF.mono ?_; rintro e w2 ⟨rfl, rfl⟩)
    | (go_at_call 10; (with_reducible refine (cP _).mono ?_); rintro e w1 ⟨q, rfl, hP, hnew, hW1⟩; have H1 := Lib.hid (And.intro hP (And.intro hnew hW1)); clear hP hnew hW1)
    | (go_at_call 11; (with_reducible refine (fn_new H1.out.1 (HH.out.1.after H1.out.2.2) HH.out.2.1 n1 (by omega) (Nat.zero_le _) (fun e => by have := H1.out.2.1 _ e; have := HH.out.2.2.1; omega)).mono ?_); intro e w2 hq; unfold NewClhPost at hq; obtain ⟨L0, q2, he, hR, hl, ha1, ha2, hqq, hP2, hW2, hC2⟩ := hq; obtain ⟨lb, hlb0⟩ : ∃ lb, lb = L0.lb := ⟨_, rfl⟩; rw [← hlb0] at he; subst he; have HB := Lib.hid hlb0; clear hlb0; have cQ := fl_port (w0 := w) (zs := z0) H1.out.2.2 H1.out.2.1 n1 (by omega) HH.out.2.1 HH.out.1.len hR hl ha1 ha2 hqq hP2 hW2; clear hR hl ha1 ha2 hqq hP2 hW2 hC2)
    | (go_at_call 12; (with_reducible refine cQ.mono ?_); clear cQ; rintro e w3 ⟨L, rfl, ⟨ha1, ha2, hL⟩, hlb, hhs⟩; rw [← HB.out] at hlb; clear HB; subst hlb; have HA := Lib.hid (And.intro ha1 (And.intro ha2 hhs)); have H2 := Lib.hid hL; clear ha1 ha2 hL hhs)
    | (go_at_call 13; (with_reducible refine (ml_homes (cp := cap0) (HH.out.1.after H2.out.wr) n1 (by omega)).mono ?_); intro e w4 hq; unfold HomesNewPost at hq; obtain ⟨hg, hcap, rfl, hrow, hW4⟩ := hq; have HR4 := Lib.hid (And.intro hrow (H2.out.after hW4)); clear hrow hW4))
  clear cF cP H1
  go_loopw [52] (fun i wr => wr = w4 ∧ ∃ k : Nat, k ≤ len0 + 2 ∧ i = .int .i64 k) (fun i _ => len0 + 2 - (intOf i).toNat)
  case atStart => exact ⟨by first | rfl | trivial, 0, Nat.zero_le _, rfl⟩
  case round =>
    obtain ⟨rfl, k, hk, rfl⟩ := hrel
    by_cases hlt2 : k < len0 + 2
    · have c0 : wr.cell? ⟨hg, 0 + k, none⟩ = some (.int .i64 ((homesC z0).getD k 0)) := by
        rcases HR4.out.1.at with h0 | ⟨b', o', e, hc⟩
        · omega
        · cases e; exact hc k hlt2
      rw [Nat.zero_add] at c0
      have cH := home_any HR4.out.2.port.mem (k : Int)
      rw [HA.out.2.2, load_at] at cH
      have p0 := HR4.out.2.port.cell0
      generalize (homesC z0).getD k 0 = y at c0 cH
      go_wp2_with (first | (go_at_call 14; (with_reducible refine cH.mono ?_); rintro e w5 ⟨rfl, rfl⟩))
      go_roundw
      case rel => exact ⟨by first | rfl | trivial, k + 1, by omega, by go_num⟩
      case measure => simp [intOf]; omega
    · obtain rfl : k = len0 + 2 := by omega
      have cN := ml_new len0 n1 (by omega) 0 wr
      have hmk := HMK.out.1
      have hwn := HMK.out.2
      go_wp2_with (first
        | (go_at_call 15; (with_reducible refine cN.mono ?_); intro e w5 hq; unfold NewMlPost at hq; obtain ⟨M0, he, hM0, ham, hbm, hnm, hW5⟩ := hq; obtain ⟨mr, hmr⟩ : ∃ mr, mr = M0.r := ⟨_, rfl⟩; rw [← hmr] at he; subst he; have HMR := Lib.hid hmr; have HM0 := Lib.hid (And.intro hM0 (And.intro ham (And.intro hbm (And.intro hnm hW5)))); have cR := rnew_any (c := len0 + 2) (n := len0) (zeros_row w5 len0) (zeros_rng len0) (by omega) (by omega); clear hmr hM0 ham hbm hnm hW5 cN)
        | (go_at_call 17; (with_reducible refine cR.mono ?_); intro e w7 hq; unfold RNewPost at hq; obtain ⟨pr, rfl, hrs, hW7⟩ := hq; have hDP := duo_made HR4.out.2 HM0.out.1 HM0.out.2.2.1 HM0.out.2.2.2.1 HM0.out.2.2.2.2 ((Wrote.refl Nil w5).alloc _) hrs hW7; have cPl := plays_any hDP ⟨none, 0, ord_new len0 n8⟩ HM0.out.2.1 HA.out.1 HA.out.2.1 n1 rfl (cap := cap1) HH.out.2.2.2 hm; dsimp only at cPl; rw [← HMR.out] at cPl; clear hDP hrs hW7 cR hmk)
        | (go_at_call 16; (with_reducible refine cPl.mono ?_); intro e w8 hq; unfold PlaysPost at hq; obtain ⟨rfl, f, W, hD8, hO8, hf8⟩ := hq; have H8 := Lib.hid (And.intro hD8 hf8); clear hD8 hO8 hf8 cPl))
      clear HMK
      have hfn : f.s.n = len0 := H8.out.2
      obtain ⟨ah, hraw, _⟩ := H8.out.1.ml.raw
      have c3 := hraw.cell3
      have cn := fun (k : Nat) (h : k < len0) => hraw.ndC (k := k) (by rw [hfn]; exact h)
      rw [hfn] at c3
      dsimp only at c3 cn
      generalize M0.nd = nb at c3 cn
      generalize M0.nc = nc at c3
      have HL := Lib.hid H8.out.1.ls
      have HN := Lib.hid (And.intro cn hfn)
      clear H8 hraw HM0 HMR cn hfn
      have HC := Lib.hid c3
      clear c3
      go_loopw [86] (fun v86 wr2 => Wrote Nil w8 wr2 ∧ ∃ m : Nat, m ≤ len0 ∧ v86 = .int .i64 m) (fun v86 _ => len0 - (intOf v86).toNat)
      case atStart => exact ⟨Wrote.refl _ _, 0, Nat.zero_le _, rfl⟩
      case round =>
        obtain ⟨hW2, m, hm8, rfl⟩ := hrel
        by_cases hlt3 : m < len0
        · have cn := hW2.old (HN.out.1 m hlt3)
          have c3 := hW2.old HC.out
          have eN : f.nodeI (m : Int) = f.node m := by unfold FL.nodeI; rw [if_pos (by rw [HN.out.2]; omega), Int.toNat_natCast]
          have cA := fun u => ls_node (HL.out.after (hW2.nil ((Wrote.refl Nil wr).drewN u))) (m : Int)
          rw [eN] at cA
          have HQ := Lib.hid hW2
          generalize f.node m = y at cA cn
          clear eN hW2
          have hmI : (m : Int) < len0 := by omega
          go_wp2
          go_big_quiet ((go_at_call 18; with_reducible exact Calls.quiet_of_same ((cA _).mono fun _ _ q => ⟨q.1, q.2.symm⟩)))
          generalize hX : wr.drewN _ = X
          have HX := Lib.hid (HQ.out.nil (by rw [← hX]; exact (Wrote.refl Nil wr).drewN _ : Wrote Nil wr X))
          clear hX c3 cn cA
          go_wp2
          go_roundw
          case rel => exact ⟨HX.out, m + 1, by omega, by go_num⟩
          case measure => simp [intOf]; omega
        · obtain rfl : m = len0 := by omega
          have e1 : f.nodeI (-1) = -1 := by unfold FL.nodeI; rw [if_neg (by omega)]
          have e2 : f.nodeI (m : Int) = -1 := by unfold FL.nodeI; rw [if_neg (by rw [HN.out.2]; omega)]
          have hL := HL.out.after hW2
          have c1 := ls_node hL (-1)
          have c2 := ls_node hL (m : Int)
          rw [e1] at c1
          rw [e2] at c2
          have HW := Lib.hid hL.wr
          clear e1 e2 HL HN hL hW2
          go_wp2_with (first
            | (go_at_call 18; (with_reducible refine c1.mono ?_); rintro e w6 ⟨rfl, rfl⟩)
            | (go_at_call 18; (with_reducible refine c2.mono ?_); rintro e w6 ⟨rfl, rfl⟩)
            | (go_at_call 9; (with_reducible refine (fl_awake _).mono ?_); intro e w9 hq; unfold AwakePost at hq; obtain ⟨rfl, hW9⟩ := hq))
          go_ret
          exact ⟨rfl, (HW.out.nil hW9).law⟩

/-! the row -/
set_option maxRecDepth 100000 in
theorem lifted (os : Os) (started : os.Started) (H : Type) (enc : TypeId × Value → H) :
    ReturnsInHanded {} Try.checked os 3 .any (Rows.clhPlaysSpec.pre6 enc Try.prog Try.f3 Rows.clhPlaysRow.domain false) (Rows.clhPlaysSpec.post enc Try.prog Try.f3 false true false false) := by
  refine returnsInHanded_of_change (C := Try.checked) own started (by kernel_rfl) Try.func3
    (ChangeSpec.witness6 (enc := enc) (C := Try.checked) false ⟨#[], #[.slice none 0 0, .slice none 0 0], []⟩ 8 (by kernel_rfl) (by kernel_rfl) (by kernel_rfl) (by kernel_rfl)) ?_
  intro W base args ds gs before hval0 hW hcnd _
  have hval : ∀ (j : Nat) t v, Try.f3.params[j]? = some t → args[j]? = some v → Value.okWide Try.prog W .any base t v := hval0
  have hW' := hW
  obtain ⟨p, q, hA0, hV, rfl, hfz, hnd⟩ := hW
  have hA : DataW.TrodAll enc Try.prog W 0 (fun _ => true) true Try.f3.params.toList args.toList ds p := hA0
  rw [Try.params3] at hA hval
  obtain ⟨v0, vs0, d0, ds0, p0, q0, hargs, rfl, rfl, h0, r0'⟩ := trodAll_cons hA
  obtain ⟨v1, vs1, d1, ds1, p1, q1, rfl, rfl, rfl, h1, r1'⟩ := trodAll_cons r0'
  obtain ⟨rfl, rfl, rfl⟩ := trodAll_nil r1'
  obtain rfl : args = #[v0, v1] := by cases args; simp_all
  obtain ⟨rfl, rfl⟩ := trodVars_none hV
  have k0 := h0
  have lt0 : ∀ x ∈ p0, x.block < W.heap.size := by obtain ⟨m, hm⟩ := k0; exact DataW.trod_lt m _ _ _ hm
  obtain ⟨s0, len0, cap0, rfl⟩ := okWide_slice Try.underlying22 (hval 0 22 v0 rfl rfl)
  obtain ⟨l0, z0, r0, w0⟩ := open_slice_row Try.underlying22 Try.underlying3 (by kernel_rfl) h0
  have k1 := h1
  have lt1 : ∀ x ∈ p1, x.block < W.heap.size := by obtain ⟨m, hm⟩ := k1; exact DataW.trod_lt m _ _ _ hm
  obtain ⟨s1, len1, cap1, rfl⟩ := okWide_slice Try.underlying23 (hval 1 23 v1 rfl rfl)
  obtain ⟨l1, z1, r1⟩ := open_slice_ints (ks := [.i64, .i64, .i64, .i64]) Try.underlying23 Try.underlying52 (by kernel_rfl) (by kernel_rfl) h1
  clear hA0 hval0
  refine (walk s0 len0 cap0 z0 s1 len1 cap1 z1 W l0 r0 w0 l1 r1).mono fun e W' ⟨he, bel⟩ => ?_
  subst he
  exact ⟨_, rfl, _, _, _, [], _, [], hW', trodAll_mk1 (shut_bool Try.underlying4 _), (trodAll_cons_mk (Below.trod laidOut (by kernel_rfl) (of_decide_eq_true (by kernel_rfl)) k0 bel lt0) (trodAll_cons_mk (Below.trod laidOut (by kernel_rfl) (of_decide_eq_true (by kernel_rfl)) k1 bel lt1) trodAll_mk0)), rfl, bel.frame _, fun h => by cases h⟩

theorem over : Rows.clhPlaysRow.holds Try.pinned (OpenSpec.ofChange Rows.clhPlaysSpec) :=
  OpenClaim.holds_of_wide 3 Try.f3 rfl rfl rfl rfl rfl rfl rfl ⟨rfl, rfl, rfl, rfl, rfl⟩ rfl rfl rfl rfl rfl (by kernel_rfl) Try.func3 (by kernel_rfl)
    (of_decide_eq_true (by kernel_rfl)) (by unfold Func.isWrapper; first | (rw [if_pos (by decide +kernel)]; kernel_rfl) | (rw [if_neg (by decide +kernel)]; exact ⟨rfl, rfl⟩))
    (fun os started H enc _ => lifted os started H enc)

/-- the statement -/
theorem proved : Rows.ClhPlaysSaid := over
#print axioms proved
end Go.Proofs.Ytmoiehaabknleaa.clhPlays
