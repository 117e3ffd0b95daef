/- For every input the Go function FlatPlays of weighlocklaw10 returns true, and its arguments read afterwards as before. Conditions: none. -/
import Derived.Test.YtojjmpoielhhhaaRows
import Derived.WalkKit
import Derived.ProofKit
import Derived.OpenShut
import Derived.ChangeOld
import Derived.Below
import Derived.Carry
import Derived.Test.YtojjmpoielhhhaaLockPlays
import Derived.BigQuiet
import Derived.BigFrame
import Derived.Test.YtojjmpoielhhhaaMix
import Derived.Test.YtojjmpoielhhhaaFlatLaw
namespace Go.Proofs.Ytojjmpoielhhhaa.flatPlays
open Go.ChangeShapes Go.WideShapes Go.ChangeAt Go.RowKit Go.BigFrame
set_option linter.unusedVariables false

theorem own : ownKnob Try.prog.godebug = none := by kernel_rfl
theorem laidOut : laidOutB Try.prog = true := by kernel_rfl

/-! the walk -/
/-- both made, the lock not yet used -/
theorem duo_made {w0 X w4 w5 w6 : World} {L : Lp} {M0 : Mp} {n pr : Nat} {v : Int} (hP : LkP w0 X L (newF n n v)) (hM : MlRaw w4 M0 (newSeat n false true) (fun _ => false) (fun _ => 0)) (hb : M0.base = w4.heap.size) (hn : X.heap.size ≤ M0.r ∧ ∀ k, MF M0 k → X.heap.size ≤ k) (h4 : Wrote Nil X w4) (h5 : Wrote Nil w4 w5) (hr : RefSt w6 w5.heap.size pr (newS n [v, v])) (h6 : Wrote Nil w5 w6) :
    DuoP w0 w6 L { M0 with base := w5.heap.size, pr := pr } (newF n n v) := by
  have s5 := h5.size
  have s6 := h6.size
  have s4 := h4.size
  have hl := hM.low
  have ht := hP.top
  have hM6 := hM.after (h5.nil h6)
  refine ⟨hP.after ((h4.nil h5).nil h6), ⟨fun _ => 0, ⟨hM6.obj, hM6.seat, hM6.pcs, hM6.min, hM6.ne, hM6.off, ?_⟩, fun _ => ⟨show (0 : Int) ≤ 0 by omega, show (0 : Int) < 4294967296 by omega⟩, fun k _ e => by cases e⟩, hr, ⟨by have := hn.1; dsimp only; omega, fun k hk => by have := hn.2 k hk; omega⟩, ⟨by dsimp only; omega, fun k hk => ?_⟩, ⟨by dsimp only; omega, s6⟩⟩
  · dsimp only
    exact ⟨by omega, by omega, by omega, fun k hk => by have := hl.2.2.2 k hk; omega⟩
  · dsimp only
    rcases hk with hk | hk | hk
    · have hk : k = M0.pc := hk
      omega
    · have hk : k = M0.mn := hk
      omega
    · have := hl.2.2.2 k hk; omega
set_option maxRecDepth 100000 in
set_option maxHeartbeats 8000000 in
theorem walk (s0 : Option Addr) (len0 cap0 : Nat) (z0 : List Int) (a1 : Int) (s2 : Option Addr) (len2 cap2 : Nat) (z2 : Nat → Nat → Int) (w : World) (l0 : len0 ≤ cap0 ∧ cap0 ≤ maxLen ∧ (s0 = none → cap0 = 0)) (r0 : RowAt .i64 w s0 len0 z0) (w0 : ∀ z ∈ z0, (Lit.int .i64 z).wf = true) (w1 : (Lit.int .u32 a1).wf = true) (l2 : len2 ≤ cap2 ∧ cap2 ≤ maxLen ∧ (s2 = none → cap2 = 0)) (r2 : Structs w [.i64, .i64, .i64, .i64] s2 len2 z2) :
    Calls Try.prog 3 #[.slice s0 len0 cap0, .int .u32 a1, .slice s2 len2 cap2] w fun e w' => e = .returned (.bool true) ∧ Below w.heap.size w w' := by
  obtain ⟨v0, v1⟩ := u32_bd w1
  have hm0 : len0 ≤ 9223372036854775807 := by have := l0.1; have := l0.2.1; unfold maxLen at this; omega
  have hm2 : len2 ≤ 9223372036854775807 := by have := l2.1; have := l2.2.1; unfold maxLen at this; omega
  have cF := fine_any (cap := cap0) r0 hm0 s2 len2 cap2 hm2
  cases hf : fineB len0 z0 len2
  · rw [hf] at cF
    clear r0 hf w0 w1 l0 l2 r2
    go_enter Try.func3, Try.ntmps3
    go_wp2_with (first
      | (go_at_call 6; with_reducible refine cF.mono ?_; rintro e w2 ⟨rfl, rfl⟩)
      | (go_at_call 7; with_reducible refine (fl_awake _).mono ?_; intro e w2 hq; unfold AwakePost at hq; obtain ⟨rfl, hW⟩ := hq))
    go_ret
    exact ⟨rfl, hW.law⟩
  · rw [hf] at cF
    obtain ⟨n1, n8, ho, hm⟩ := fineB_no hf
    rcases r0.at with e0 | ⟨b, o, rfl, hc⟩
    · omega
    have hb : b < w.heap.size := World.block_lt_of_cell? w _ (hc 0 (by omega))
    have hx : okH (z0.getD 0 0) = true := by
      have := ho
      unfold homesOK at this
      rw [List.all_eq_true] at this
      have hk : 0 < z0.length := by rw [r0.len]; omega
      exact this _ (by rw [List.getD_eq_getElem?_getD, List.getElem?_eq_getElem hk]; exact List.getElem_mem hk)
    obtain ⟨x, hxx⟩ : ∃ x, x = z0.getD 0 0 := ⟨_, rfl⟩
    rw [← hxx] at hx
    have hat : OpsAt w s2 len2 z2 := by
      rcases r2.at (by decide) with e | ⟨b2, o2, rfl, hc2⟩
      · exact .inl e
      · exact .inr ⟨b2, o2, rfl, fun i hi j hj => (hc2 i hi j .i64 (by match j, hj with | 0, _ => rfl | 1, _ => rfl | 2, _ => rfl | 3, _ => rfl)).1⟩
    have HH := Lib.hid (And.intro r0 (And.intro ho (And.intro hb (And.intro hx (And.intro hxx (And.intro v0 (And.intro v1 hat)))))))
    have cP := fun W => plnew_any (len0 : Int) W
    clear r0 hf w0 w1 l0 l2 r2 hc ho hb hx hxx v0 v1 hat
    go_enter Try.func3, Try.ntmps3
    go_wp2_with (first
      | (go_at_call 6; with_reducible refine cF.mono ?_; rintro e w2 ⟨rfl, rfl⟩)
      | (go_at_call 8; (with_reducible refine (cP _).mono ?_); rintro e w1 ⟨q, rfl, hP, hnew, hW1⟩; have H1 := Lib.hid (And.intro hP (And.intro hnew hW1)); clear hP hnew hW1)
      | (go_at_call 9; (with_reducible refine (fn_new H1.out.1 (HH.out.1.after H1.out.2.2) HH.out.2.1 n1 (by omega) (Nat.zero_le _) (fun e => by have := H1.out.2.1 _ e; have := HH.out.2.2.1; omega) ⟨HH.out.2.2.2.2.2.1, HH.out.2.2.2.2.2.2.1⟩).mono ?_); intro e w2 hq; unfold NewFlatPost at hq; obtain ⟨L0, q2, he, hR, hl, ha1, ha2, hqq, hP2, hW2, hC2⟩ := hq; rw [← HH.out.2.2.2.2.1] at hP2; obtain ⟨lb, hlb0⟩ : ∃ lb, lb = L0.lb := ⟨_, rfl⟩; rw [← hlb0] at he; subst he; have HB := Lib.hid hlb0; clear hlb0; have cQ := fl_port (w0 := w) H1.out.2.2 H1.out.2.1 n1 (by omega) HH.out.2.2.2.1 ⟨HH.out.2.2.2.2.2.1, HH.out.2.2.2.2.2.2.1⟩ hR hl ha1 ha2 hqq hP2 hW2; clear hR hl ha1 ha2 hqq hP2 hW2 hC2)
      | (go_at_call 10; (with_reducible refine cQ.mono ?_); clear cQ; rintro e w3 ⟨L, rfl, ⟨ha1, ha2, hL⟩, hlb, hhs⟩; rw [← HB.out] at hlb; clear HB; subst hlb; have HA := Lib.hid (And.intro ha1 (And.intro ha2 hhs)); have H2 := Lib.hid hL; clear ha1 ha2 hL hhs))
    have hw3 := H2.out.wr
    have p0 := H2.out.port.cell0
    have hcx : w3.cell? ⟨b, o, none⟩ = some (.int .i64 x) := by
      have := (HH.out.1.after hw3).cell ⟨b, o, none⟩ rfl 0 (by omega)
      rw [HH.out.2.2.2.2.1]
      exact this
    have hq0 : ∀ u, Calls Try.prog 11 #[.pointer (some ⟨L.q.m, 0, none⟩), .int .i64 0] (w3.drewN u) fun e w' => e = .returned (.int .i64 x) ∧ w' = w3.drewN u := fun u => by
      have c := home_any (H2.out.port.after ((Wrote.refl Nil w3).drewN u)).mem 0
      rw [HA.out.2.2] at c
      exact c.mono fun _ _ k => ⟨k.1, k.2.symm⟩
    have hq1 : ∀ u, Calls Try.prog 11 #[.pointer (some ⟨L.q.m, 0, none⟩), .int .i64 1] (w3.drewN u) fun e w' => e = .returned (.int .i64 x) ∧ w' = w3.drewN u := fun u => by
      have c := home_any (H2.out.port.after ((Wrote.refl Nil w3).drewN u)).mem 1
      rw [HA.out.2.2] at c
      exact c.mono fun _ _ k => ⟨k.1, k.2.symm⟩
    have i1 : (0 : Int) < len0 := by omega
    have i2 : (0 : Nat) < len0 := n1
    clear hw3
    go_big_quiet (first
      | (go_at_call 11; with_reducible exact Calls.quiet_of_same (hq0 _))
      | (go_at_call 11; with_reducible exact Calls.quiet_of_same (hq1 _)))
    generalize hX : w3.drewN nq = X
    have hPX : LkP w X L (newF len0 len0 a1) := by rw [← hX]; exact H2.out.after ((Wrote.refl _ _).drewN _)
    have HP := Lib.hid hPX
    clear hX hPX p0 hcx hq0 hq1
    have cN := ml_new len0 (by omega) 0 X
    go_wp2_with (first
      | (go_at_call 13; (with_reducible refine cN.mono ?_); intro e w4 hq; unfold NewMlPost at hq; obtain ⟨M0, he, hM0, ham, hbm, hnm, hW4⟩ := hq; obtain ⟨mr, hmr⟩ : ∃ mr, mr = M0.r := ⟨_, rfl⟩; rw [← hmr] at he; subst he; have HMR := Lib.hid hmr; have HM0 := Lib.hid (And.intro hM0 (And.intro ham (And.intro hbm (And.intro hnm hW4)))); have cW := ml_words w4 a1; clear hmr hM0 ham hbm hnm hW4 cN)
      | (go_at_call 15; (with_reducible refine cW.mono ?_); intro e w5 hq; unfold WordsNewPost at hq; obtain ⟨g, rfl, hrw, hW5, _⟩ := hq; have cR := rnew_any (c := 2) (n := len0) hrw (by intro z hz; rcases List.mem_cons.1 hz with rfl | hz; exact ⟨HH.out.2.2.2.2.2.1, HH.out.2.2.2.2.2.2.1⟩; rcases List.mem_cons.1 hz with rfl | hz; exact ⟨HH.out.2.2.2.2.2.1, HH.out.2.2.2.2.2.2.1⟩; cases hz) (by omega) (by omega); have H5 := Lib.hid hW5; clear hrw hW5 cW)
      | (go_at_call 14; (with_reducible refine cR.mono ?_); intro e w6 hq; unfold RNewPost at hq; obtain ⟨pr, rfl, hrs, hW6⟩ := hq; have hDP := duo_made HP.out HM0.out.1 HM0.out.2.2.1 HM0.out.2.2.2.1 HM0.out.2.2.2.2 H5.out hrs hW6; have cPl := plays_any hDP ⟨none, a1, a1, ord_new len0 len0 a1 n8 rfl ⟨HH.out.2.2.2.2.2.1, HH.out.2.2.2.2.2.2.1⟩⟩ HM0.out.2.1 HA.out.1 HA.out.2.1 n1 rfl (cap := cap2) HH.out.2.2.2.2.2.2.2 hm; dsimp only at cPl; rw [← HMR.out] at cPl; have H6 := Lib.hid hW6; clear hDP hrs hW6 cR)
      | (go_at_call 12; (with_reducible refine cPl.mono ?_); intro e w7 hq; have hW7 := hq.wr; unfold PlaysPost at hq; obtain ⟨rfl, _⟩ := hq; have H4 := Lib.hid hW7; clear hW7 cPl)
      | (go_at_call 7; with_reducible refine (fl_awake _).mono ?_; intro e w8 hq; unfold AwakePost at hq; obtain ⟨rfl, hW8⟩ := hq))
    go_ret
    exact ⟨rfl, (H4.out.nil hW8).law⟩

/-! the row -/
set_option maxRecDepth 100000 in
theorem lifted (os : Os) (started : os.Started) (H : Type) (enc : TypeId × Value → H) :
    ReturnsInHanded {} Try.checked os 3 .any (Rows.flatPlaysSpec.pre6 enc Try.prog Try.f3 Rows.flatPlaysRow.domain false) (Rows.flatPlaysSpec.post enc Try.prog Try.f3 false true false false) := by
  refine returnsInHanded_of_change (C := Try.checked) own started (by kernel_rfl) Try.func3
    (ChangeSpec.witness6 (enc := enc) (C := Try.checked) false ⟨#[], #[.slice none 0 0, .int .u32 0, .slice none 0 0], []⟩ 8 (by kernel_rfl) (by kernel_rfl) (by kernel_rfl) (by kernel_rfl)) ?_
  intro W base args ds gs before hval0 hW hcnd _
  have hval : ∀ (j : Nat) t v, Try.f3.params[j]? = some t → args[j]? = some v → Value.okWide Try.prog W .any base t v := hval0
  have hW' := hW
  obtain ⟨p, q, hA0, hV, rfl, hfz, hnd⟩ := hW
  have hA : DataW.TrodAll enc Try.prog W 0 (fun _ => true) true Try.f3.params.toList args.toList ds p := hA0
  rw [Try.params3] at hA hval
  obtain ⟨v0, vs0, d0, ds0, p0, q0, hargs, rfl, rfl, h0, r0'⟩ := trodAll_cons hA
  obtain ⟨v1, vs1, d1, ds1, p1, q1, rfl, rfl, rfl, h1, r1'⟩ := trodAll_cons r0'
  obtain ⟨v2, vs2, d2, ds2, p2, q2, rfl, rfl, rfl, h2, r2'⟩ := trodAll_cons r1'
  obtain ⟨rfl, rfl, rfl⟩ := trodAll_nil r2'
  obtain rfl : args = #[v0, v1, v2] := by cases args; simp_all
  obtain ⟨rfl, rfl⟩ := trodVars_none hV
  have k0 := h0
  have lt0 : ∀ x ∈ p0, x.block < W.heap.size := by obtain ⟨m, hm⟩ := k0; exact DataW.trod_lt m _ _ _ hm
  obtain ⟨s0, len0, cap0, rfl⟩ := okWide_slice Try.underlying22 (hval 0 22 v0 rfl rfl)
  obtain ⟨l0, z0, r0, w0⟩ := open_slice_row Try.underlying22 Try.underlying3 (by kernel_rfl) h0
  obtain ⟨a1, rfl, rfl, rfl, w1⟩ := open_int Try.underlying23 (hval 1 23 v1 rfl rfl) h1
  have k2 := h2
  have lt2 : ∀ x ∈ p2, x.block < W.heap.size := by obtain ⟨m, hm⟩ := k2; exact DataW.trod_lt m _ _ _ hm
  obtain ⟨s2, len2, cap2, rfl⟩ := okWide_slice Try.underlying24 (hval 2 24 v2 rfl rfl)
  obtain ⟨l2, z2, r2⟩ := open_slice_ints (ks := [.i64, .i64, .i64, .i64]) Try.underlying24 Try.underlying78 (by kernel_rfl) (by kernel_rfl) h2
  clear hA0 hval0
  refine (walk s0 len0 cap0 z0 a1 s2 len2 cap2 z2 W l0 r0 w0 w1 l2 r2).mono fun e W' ⟨he, bel⟩ => ?_
  subst he
  exact ⟨_, rfl, _, _, _, [], _, [], hW', trodAll_mk1 (shut_bool Try.underlying4 _), (trodAll_cons_mk (Below.trod laidOut (by kernel_rfl) (of_decide_eq_true (by kernel_rfl)) k0 bel lt0) (trodAll_cons_mk (shut_int Try.underlying23 w1) (trodAll_cons_mk (Below.trod laidOut (by kernel_rfl) (of_decide_eq_true (by kernel_rfl)) k2 bel lt2) trodAll_mk0))), rfl, bel.frame _, fun h => by cases h⟩

theorem over : Rows.flatPlaysRow.holds Try.pinned (OpenSpec.ofChange Rows.flatPlaysSpec) :=
  OpenClaim.holds_of_wide 3 Try.f3 rfl rfl rfl rfl rfl rfl rfl ⟨rfl, rfl, rfl, rfl, rfl⟩ rfl rfl rfl rfl rfl (by kernel_rfl) Try.func3 (by kernel_rfl)
    (of_decide_eq_true (by kernel_rfl)) (by unfold Func.isWrapper; first | (rw [if_pos (by decide +kernel)]; kernel_rfl) | (rw [if_neg (by decide +kernel)]; exact ⟨rfl, rfl⟩))
    (fun os started H enc _ => lifted os started H enc)

/-- the statement -/
theorem proved : Rows.FlatPlaysSaid := over
#print axioms proved
end Go.Proofs.Ytojjmpoielhhhaa.flatPlays
