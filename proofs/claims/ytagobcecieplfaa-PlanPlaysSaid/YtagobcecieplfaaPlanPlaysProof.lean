/- For every input the Go function PlanPlays of weighlocklaw05 returns true, and its arguments read afterwards as before. Conditions: none. -/
import Derived.Test.YtagobcecieplfaaRows
import Derived.WalkKit
import Derived.ProofKit
import Derived.OpenShut
import Derived.ChangeOld
import Derived.Below
import Derived.Carry
import Derived.Test.YtagobcecieplfaaPlanEnd
import Derived.Lib.Hide
import Derived.BigRegion
import Derived.Deep.Cut
namespace Go.Proofs.Ytagobcecieplfaa.planPlays
open Go.ChangeShapes Go.WideShapes Go.ChangeAt Go.RowKit
set_option linter.unusedVariables false

theorem own : ownKnob Try.prog.godebug = none := by kernel_rfl
theorem laidOut : laidOutB Try.prog = true := by kernel_rfl

/-! the walk -/
theorem own_row_at {k : IntKind} {e : TypeId} {w : World} {base n cp : Nat} {so : Option Addr} {zs : List Int} (h : w.ownsRow base e 1 (.slice so n cp) n (zs.map (Value.int k))) : RowAt k w so n zs := by
  obtain ⟨sa, cap, e1, _, _, hr, _⟩ := own_rowAt h
  simp only [Value.slice.injEq] at e1
  obtain ⟨rfl, _, _⟩ := e1
  exact hr
theorem own_row_some {k : IntKind} {e : TypeId} {w : World} {base n cp : Nat} {so : Option Addr} {zs : List Int} (h : w.ownsRow base e 1 (.slice so n cp) n (zs.map (Value.int k))) : n = 0 ∨ ∃ g, so = some ⟨g, 0, none⟩ := by
  rcases Nat.eq_zero_or_pos n with h0 | h0
  · exact .inl h0
  · obtain ⟨g, cap, e1, _⟩ := own_row h h0
    simp only [Value.slice.injEq] at e1
    exact .inr ⟨g, e1.1⟩

set_option maxRecDepth 100000 in
set_option maxHeartbeats 4000000 in
theorem walk (a0 : Int) (s1 : Option Addr) (len1 cap1 : Nat) (z1 : Nat → Nat → Int) (w : World) (w0 : (Lit.int .i64 a0).wf = true) (l1 : len1 ≤ cap1 ∧ cap1 ≤ maxLen ∧ (s1 = none → cap1 = 0)) (r1 : StructsK w [.bool, .int .i64, .int .i64, .int .u32] s1 len1 z1) :
    Calls Try.prog 3 #[.int .i64 a0, .slice s1 len1 cap1] w fun e w' => e = .returned (.bool true) ∧ Below w.heap.size w w' := by
  obtain ⟨t0, t1⟩ := i64_bd w0
  have hml : len1 ≤ 9223372036854775807 := by have := l1.1; have := l1.2.1; unfold maxLen at this; omega
  clear l1 w0
  by_cases hbig : 12 < len1
  · clear r1
    go_enter Try.func3, Try.ntmps3
    go_wp2_with (go_at_call 5; refine (awake_any _).mono ?_; rintro e w6 ⟨rfl, hW6⟩)
    go_ret
    exact ⟨rfl, hW6.law⟩
  have hat := r1.at (by decide)
  have R1 := Lib.hid r1
  clear r1
  go_enter Try.func3, Try.ntmps3
  go_wp2_with (go_at_call 6; with_reducible refine (new_st a0 _).mono ?_; intro e w1 h1; unfold NewPlanPost at h1; obtain ⟨p, rfl, hP⟩ := h1)
  obtain ⟨q0, hL0⟩ := ls_begin hP
  have hLp : Lp w p w1.heap.size a0 0 (w1.alloc (.cells #[.slice none 0 0, .slice none 0 0] 29)) := ⟨[], [], q0, none, 0, none, 0, hL0, Nat.zero_le _, fun z hz => nomatch hz⟩
  clear hP hL0
  generalize w1.alloc (.cells #[.slice none 0 0, .slice none 0 0] 29) = w2 at hLp ⊢
  generalize w1.heap.size = r at hLp ⊢
  go_loopw [27] (fun i wr => ∃ j : Nat, j ≤ len1 ∧ i = .int .i64 j ∧ Lp w p r a0 j wr) (fun i _ => len1 - (intOf i).toNat)
  case atStart => exact ⟨0, Nat.zero_le _, rfl, hLp⟩
  case round =>
    clear hLp
    obtain ⟨j, hj, rfl, hR⟩ := hrel
    by_cases hlt : j < len1
    · rcases hat with e0 | ⟨b, o, rfl, hcell⟩
      · omega
      obtain ⟨hs, vs, q, so, cp, sv, cv, hL, hl, hv⟩ := hR
      have hvb := u32_bd (hcell j hlt 3 _ rfl).2
      have y0 : wr.cell? ⟨b, o + j * 4, none⟩ = some (.bool (decide (z1 j 0 = 1))) := hL.wrote.old (hcell j hlt 0 _ rfl).1
      have y1 : wr.cell? ⟨b, o + j * 4 + 1, none⟩ = some (.int .i64 (z1 j 1)) := hL.wrote.old (hcell j hlt 1 _ rfl).1
      have y2 : wr.cell? ⟨b, o + j * 4 + 2, none⟩ = some (.int .i64 (z1 j 2)) := hL.wrote.old (hcell j hlt 2 _ rfl).1
      have y3 : wr.cell? ⟨b, o + j * 4 + 3, none⟩ = some (.int .u32 (z1 j 3)) := hL.wrote.old (hcell j hlt 3 _ rfl).1
      generalize z1 j 1 = n at y1
      generalize z1 j 2 = home at y2
      generalize z1 j 3 = v at y3 hvb
      have c0 : wr.cell? ⟨r, 0, none⟩ = some (.slice so hs.length cp) := (blk_cell hL.obj 0).trans rfl
      have c1 : wr.cell? ⟨r, 1, none⟩ = some (.slice sv hs.length cv) := (blk_cell hL.obj 1).trans rfl
      have hl9 : hs.length ≤ 900000 := by omega
      by_cases hone : z1 j 0 = 1
      · have hd : decide (z1 j 0 = 1) = true := by simp [hone]
        rw [hd] at y0
        obtain ⟨hs3, h3⟩ : ∃ l, l = hs ++ List.replicate (rowN 1) home := ⟨_, rfl⟩
        obtain ⟨vs3, v3⟩ : ∃ l, l = vs ++ List.replicate (rowN 1) v := ⟨_, rfl⟩
        have cR : ∀ X, Wrote Nil wr X → Calls Try.prog 7 #[.agg #[.slice so hs.length cp, .slice sv hs.length cv], .int .i64 1, .int .i64 home, .int .u32 v] X (RefPost w p r a0 hs vs hs vs hs3 vs3 q (.slice so hs.length cp) (.slice sv hs.length cv) X) := fun X hX => by
          rw [h3, v3]
          exact ls_ref (hL.after hX) 1 home v hl9
        have cP : ∀ hv' vv' W, LSt w p r a0 hs vs hs3 vs3 q hv' vv' W → Calls Try.prog 8 #[.pointer (some ⟨p, 0, none⟩), .int .i64 home, .int .u32 v] W (PlPost w p r a0 hs3 vs3 hs3 vs3 hv' vv' hs.length) := fun hv' vv' W h => by
          rw [h3, v3] at h ⊢
          exact ls_word h home v hl9
        have x0 : (wr.alloc (.cells #[.bool true, .int .i64 n, .int .i64 home, .int .u32 v] 32)).cell? ⟨r, 0, none⟩ = some (.slice so hs.length cp) := ((Wrote.refl Nil wr).alloc _).old c0
        have x1 : (wr.alloc (.cells #[.bool true, .int .i64 n, .int .i64 home, .int .u32 v] 32)).cell? ⟨r, 1, none⟩ = some (.slice sv hs.length cv) := ((Wrote.refl Nil wr).alloc _).old c1
        have hrw : r < wr.heap.size := blk_lt hL.obj
        have hne : ¬ wr.heap.size = r := by omega
        have htf := fun b (hb : TF (.slice so hs.length cp) (.slice sv hs.length cv) b) => hL.rows.lt hb
        have H := Lib.hid (And.intro hl (And.intro hv (And.intro hvb (And.intro h3 v3))))
        clear hL hl hl9 hv hvb hone hd hcell h3 v3 c0 c1
        go_wp2_with (first
          | (go_at_call 7; with_reducible refine (cR _ ((Wrote.refl Nil wr).alloc _)).mono ?_; intro e w3 h9; unfold RefPost at h9; obtain ⟨so3, cp3, sv3, cv3, rfl, k1, k2, hL3⟩ := h9; obtain ⟨k1, k2, k3, k4, k5⟩ := ref_cells (s := .slice so3 hs3.length cp3) (s' := .slice sv3 hs3.length cv3) hrw htf k2 k1; have g2 := (k5 2).trans rfl; have g3 := (k5 3).trans rfl; clear k5)
          | (go_at_call 8; with_reducible refine (cP _ _ _ hL3).mono ?_; intro e w4 h4; unfold PlPost at h4; obtain ⟨rfl, q4, hL4⟩ := h4))
        have lq : ∀ u, Calls Try.prog 10 #[.pointer (some ⟨p, 0, none⟩)] (w4.drewN u) fun e w' => e = .returned (.int .i64 (hs3.length : Nat)) ∧ w' = w4.drewN u := fun u => ls_len (hL4.after ((Wrote.refl Nil w4).drewN u))
        have z1 : w4.cell? ⟨r, 1, none⟩ = some (.slice sv3 hs3.length cv3) := (blk_cell hL4.obj 1).trans rfl
        have H4 := Lib.hid hL4
        clear hL4 cP cR
        go_big_quiet ((go_at_call 10; exact Calls.quiet_of_same (lq _)))
        go_wp2
        go_roundw
        case rel =>
          obtain ⟨hl, hv, hvb, h3, v3⟩ := H.out
          have hL5 := H4.out.after ((Wrote.refl Nil w4).drewN nq)
          rw [h3, v3] at hL5
          exact ⟨j + 1, by omega, by go_num, by simpa [h3] using lp_next hL5 hl hv hvb⟩
        case measure => simp [intOf]; omega
      · have hd : decide (z1 j 0 = 1) = false := by simp [hone]
        rw [hd] at y0
        obtain ⟨hs3, h3⟩ : ∃ l, l = hs ++ List.replicate (rowN n) home := ⟨_, rfl⟩
        obtain ⟨vs3, v3⟩ : ∃ l, l = vs ++ List.replicate (rowN n) v := ⟨_, rfl⟩
        have cR : ∀ X, Wrote Nil wr X → Calls Try.prog 7 #[.agg #[.slice so hs.length cp, .slice sv hs.length cv], .int .i64 n, .int .i64 home, .int .u32 v] X (RefPost w p r a0 hs vs hs vs hs3 vs3 q (.slice so hs.length cp) (.slice sv hs.length cv) X) := fun X hX => by
          rw [h3, v3]
          exact ls_ref (hL.after hX) n home v hl9
        have cP : ∀ hv' vv' W, LSt w p r a0 hs vs hs3 vs3 q hv' vv' W → Calls Try.prog 9 #[.pointer (some ⟨p, 0, none⟩), .int .i64 n, .int .i64 home, .int .u32 v] W (PlPost w p r a0 hs3 vs3 hs3 vs3 hv' vv' hs.length) := fun hv' vv' W h => by
          rw [h3, v3] at h ⊢
          exact ls_row h n home v hl9
        have x0 : (wr.alloc (.cells #[.bool false, .int .i64 n, .int .i64 home, .int .u32 v] 32)).cell? ⟨r, 0, none⟩ = some (.slice so hs.length cp) := ((Wrote.refl Nil wr).alloc _).old c0
        have x1 : (wr.alloc (.cells #[.bool false, .int .i64 n, .int .i64 home, .int .u32 v] 32)).cell? ⟨r, 1, none⟩ = some (.slice sv hs.length cv) := ((Wrote.refl Nil wr).alloc _).old c1
        have hrw : r < wr.heap.size := blk_lt hL.obj
        have hne : ¬ wr.heap.size = r := by omega
        have htf := fun b (hb : TF (.slice so hs.length cp) (.slice sv hs.length cv) b) => hL.rows.lt hb
        have H := Lib.hid (And.intro hl (And.intro hv (And.intro hvb (And.intro h3 v3))))
        clear hL hl hl9 hv hvb hone hd hcell h3 v3 c0 c1
        go_wp2_with (first
          | (go_at_call 7; with_reducible refine (cR _ ((Wrote.refl Nil wr).alloc _)).mono ?_; intro e w3 h9; unfold RefPost at h9; obtain ⟨so3, cp3, sv3, cv3, rfl, k1, k2, hL3⟩ := h9; obtain ⟨k1, k2, k3, k4, k5⟩ := ref_cells (s := .slice so3 hs3.length cp3) (s' := .slice sv3 hs3.length cv3) hrw htf k2 k1; have g1 := (k5 1).trans rfl; have g2 := (k5 2).trans rfl; have g3 := (k5 3).trans rfl; clear k5)
          | (go_at_call 9; with_reducible refine (cP _ _ _ hL3).mono ?_; intro e w4 h4; unfold PlPost at h4; obtain ⟨rfl, q4, hL4⟩ := h4))
        have lq : ∀ u, Calls Try.prog 10 #[.pointer (some ⟨p, 0, none⟩)] (w4.drewN u) fun e w' => e = .returned (.int .i64 (hs3.length : Nat)) ∧ w' = w4.drewN u := fun u => ls_len (hL4.after ((Wrote.refl Nil w4).drewN u))
        have z1 : w4.cell? ⟨r, 1, none⟩ = some (.slice sv3 hs3.length cv3) := (blk_cell hL4.obj 1).trans rfl
        have H4 := Lib.hid hL4
        clear hL4 cP cR
        go_big_quiet ((go_at_call 10; exact Calls.quiet_of_same (lq _)))
        go_wp2
        go_roundw
        case rel =>
          obtain ⟨hl, hv, hvb, h3, v3⟩ := H.out
          have hL5 := H4.out.after ((Wrote.refl Nil w4).drewN nq)
          rw [h3, v3] at hL5
          exact ⟨j + 1, by omega, by go_num, by simpa [h3] using lp_next hL5 hl hv hvb⟩
        case measure => simp [intOf]; omega
    · obtain rfl : j = len1 := by omega
      obtain ⟨hs, vs, q, so, cp, sv, cv, hL, hl, hv⟩ := hR
      have c0 : wr.cell? ⟨r, 0, none⟩ = some (.slice so hs.length cp) := (blk_cell hL.obj 0).trans rfl
      have c1 : wr.cell? ⟨r, 1, none⟩ = some (.slice sv hs.length cv) := (blk_cell hL.obj 1).trans rfl
      have hl9 : hs.length ≤ 49164 := by omega
      have HL := Lib.hid (And.intro hL (And.intro hl hv))
      clear hat hl
      by_cases hbad : a0 < 1 ∨ (¬ a0 < 1 ∧ 64 < a0)
      · have cF := fun W (hW : Wrote Nil wr W) => ls_fail hL hW (.inl ⟨hbad, rfl⟩)
        clear hL hv
        rcases hbad with h | ⟨h, h'⟩
        all_goals
          go_wp2_with (first
            | (go_at_call 11; with_reducible refine (cF _ hW5).mono ?_; intro e w7 h7; unfold PortFail at h7; obtain ⟨rfl, hW7⟩ := h7; have e0 := (hW5.nil hW7).old c0; have e1 := (hW5.nil hW7).old c1)
            | (go_at_call 11; with_reducible refine (cF _ (Wrote.refl Nil wr)).mono ?_; intro e w5 h5; unfold PortFail at h5; obtain ⟨rfl, hW5⟩ := h5)
            | (go_at_call 5; refine (awake_any _).mono ?_; rintro e w9 ⟨rfl, hW9⟩))
          go_ret
          exact ⟨rfl, (((HL.out.1.wrote.nil hW5).nil hW7).nil hW9).law⟩
      have h1 : ¬ a0 < 1 := by omega
      have h2 : ¬ 64 < a0 := by omega
      clear hbad
      by_cases hm : 4096 < hs.length
      · have cF := fun W (hW : Wrote Nil wr W) => ls_fail hL hW (.inr (.inl ⟨⟨by omega, by omega⟩, hm, rfl⟩))
        clear hL hv
        all_goals
          go_wp2_with (first
            | (go_at_call 11; with_reducible refine (cF _ hW5).mono ?_; intro e w7 h7; unfold PortFail at h7; obtain ⟨rfl, hW7⟩ := h7; have e0 := (hW5.nil hW7).old c0; have e1 := (hW5.nil hW7).old c1)
            | (go_at_call 11; with_reducible refine (cF _ (Wrote.refl Nil wr)).mono ?_; intro e w5 h5; unfold PortFail at h5; obtain ⟨rfl, hW5⟩ := h5)
            | (go_at_call 5; refine (awake_any _).mono ?_; rintro e w9 ⟨rfl, hW9⟩))
          go_ret
          exact ⟨rfl, (((HL.out.1.wrote.nil hW5).nil hW7).nil hW9).law⟩
      have hm2 : hs.length ≤ 4096 := by omega
      have hro := own_row_at hL.rows.homes
      cases hok : homesOK hs
      · have cF := fun W (hW : Wrote Nil wr W) => ls_fail hL hW (.inr (.inr ⟨⟨by omega, by omega⟩, hm2, hok, rfl⟩))
        have cH : ∀ W, Wrote Nil wr W → Calls Try.prog 12 #[.slice so hs.length cp] W fun e w' => e = .returned (.bool false) ∧ W = w' := fun W hW => by
          have c := homes_any (cap := cp) (hro.after hW) (by omega)
          rw [hok] at c
          exact c
        clear hL hv hro
        all_goals
          go_wp2_with (first
            | (go_at_call 11; with_reducible refine (cF _ hW5).mono ?_; intro e w7 h7; unfold PortFail at h7; obtain ⟨rfl, hW7⟩ := h7; have e0 := (hW5.nil hW7).old c0; have e1 := (hW5.nil hW7).old c1)
            | (go_at_call 11; with_reducible refine (cF _ (Wrote.refl Nil wr)).mono ?_; intro e w5 h5; unfold PortFail at h5; obtain ⟨rfl, hW5⟩ := h5)
            | (go_at_call 12; with_reducible refine (cH _ (hW5.nil hW7)).mono ?_; rintro e w' ⟨rfl, hw'⟩; subst w')
            | (go_at_call 5; refine (awake_any _).mono ?_; rintro e w9 ⟨rfl, hW9⟩))
          go_ret
          exact ⟨rfl, (((HL.out.1.wrote.nil hW5).nil hW7).nil hW9).law⟩
      obtain ⟨n, rfl⟩ := Int.eq_ofNat_of_zero_le (show 0 ≤ a0 by omega)
      have hlv := hL.plan.len
      have hso := own_row_some hL.rows.homes
      have hsv := own_row_some hL.rows.values
      have n1 : 1 ≤ n := by omega
      have n2 : n ≤ 64 := by omega
      clear hro
      go_wp2_with (first
        | (go_at_call 11; with_reducible refine (gs_two hL hA hv n1 n2 hm2 hok).mono ?_; intro e w7 h7; unfold PortBPost at h7; obtain ⟨y, rfl, hG⟩ := h7; have e0 := (blk_cell hG.obj 0).trans rfl; have e1 := (blk_cell hG.obj 1).trans rfl)
        | (go_at_call 11; with_reducible refine (gs_one hL hv n1 n2 hm2 hok).mono ?_; intro e w5 h5; unfold PortAPost at h5; obtain ⟨x, rfl, hA⟩ := h5)
        | (go_at_call 12; have c := homes_any (cap := cp) (own_row_at hG.rows.homes) (by omega); rw [hok] at c; with_reducible refine c.mono ?_; rintro e w' ⟨rfl, hw'⟩; subst w')
        | (go_at_call 13; with_reducible refine (gs_threads hG).mono ?_; rintro e w' ⟨rfl, hw'⟩; subst w')
        | (go_at_call 14; with_reducible refine (gs_store hG).mono ?_; intro e w8 h8; unfold StorePost at h8; obtain ⟨rfl, hH⟩ := h8; have d0 := hH.port.cell0)
        | (go_at_call 15; with_reducible refine (gs_words hH hlv).mono ?_; intro e w9 h9; unfold EndPost at h9; obtain ⟨tb, rfl, hE, hrow⟩ := h9; have z1 := (blk_cell hE.obj 1).trans rfl))
      have hL := Lib.hid hlv
      clear hv hA hG hH hlv c0 c1 e0 e1 d0 z1 hok
      go_loopw [168] (fun i wr => ∃ k : Nat, k ≤ hs.length ∧ i = .int .i64 k ∧ HSt w r y n hs vs (.slice so hs.length cp) (.slice sv hs.length cv) wr ∧ wr.rowIs tb 30 hs.length (fun j => .int .u32 (vs.getD j 0))) (fun i _ => hs.length - (intOf i).toNat)
      case atStart => exact ⟨0, Nat.zero_le _, rfl, hE, hrow⟩
      case round =>
        clear hE hrow
        obtain ⟨k, hk, rfl, hE, hrow⟩ := hrel
        by_cases hlt : k < hs.length
        · rcases hso with x0 | ⟨gh, rfl⟩
          · omega
          rcases hsv with x0 | ⟨gv, rfl⟩
          · omega
          have f1 := hrow.cell hlt
          have f2 := (own_row_at hE.rows.homes).cell _ rfl k hlt
          have f3 := (own_row_at hE.rows.values).cell _ rfl k hlt
          rw [Go.Addr.add_lit, Nat.zero_add] at f2 f3
          have f4 := hE.port.cell0
          have f5 : wr.cell? ⟨r, 0, none⟩ = some (.slice (some ⟨gh, 0, none⟩) hs.length cp) := (blk_cell hE.obj 0).trans rfl
          have f6 : wr.cell? ⟨r, 1, none⟩ = some (.slice (some ⟨gv, 0, none⟩) hs.length cv) := (blk_cell hE.obj 1).trans rfl
          obtain ⟨x1, hx1⟩ : ∃ x, x = hs.getD k 0 := ⟨_, rfl⟩
          obtain ⟨x2, hx2⟩ : ∃ x, x = vs.getD k 0 := ⟨_, rfl⟩
          have lq : ∀ u, Calls Try.prog 16 #[.pointer (some ⟨y.m, 0, none⟩), .int .i64 k] (wr.drewN u) fun e w' => e = .returned (.int .i64 x1) ∧ w' = wr.drewN u := by
            intro u
            have c := home_any (hE.port.after ((Wrote.refl Nil wr).drewN u)).mem (k : Int)
            rw [load_at, ← hx1] at c
            exact c.mono fun _ _ h => ⟨h.1, h.2.symm⟩
          rw [← hx1] at f2
          rw [← hx2] at f1 f3
          have f7 : (k : Int) < hs.length := by omega
          have HX := Lib.hid (And.intro hE (And.intro hrow (And.intro hx1 hx2)))
          clear hE hrow hx1 hx2
          go_wp2
          go_big_quiet ((go_at_call 16; exact Calls.quiet_of_same (lq _)))
          go_wp2
          go_roundw
          case rel =>
            have d := (Wrote.refl Nil wr).drewN nq
            exact ⟨k + 1, by omega, by go_num, HX.out.1.after d, HX.out.2.1.of_block rfl⟩
          case measure => simp [intOf]; omega
        · have HW := Lib.hid hE.wrote
          clear hE hrow hso hsv
          go_wp2_with (go_at_call 5; refine (awake_any _).mono ?_; rintro e w9 ⟨rfl, hW9⟩)
          go_ret
          exact ⟨rfl, (HW.out.nil hW9).law⟩

/-! the row -/
set_option maxRecDepth 100000 in
theorem lifted (os : Os) (started : os.Started) (H : Type) (enc : TypeId × Value → H) :
    ReturnsInHanded {} Try.checked os 3 .any (Rows.planPlaysSpec.pre6 enc Try.prog Try.f3 Rows.planPlaysRow.domain false) (Rows.planPlaysSpec.post enc Try.prog Try.f3 false true false false) := by
  refine returnsInHanded_of_change (C := Try.checked) own started (by kernel_rfl) Try.func3
    (ChangeSpec.witness6 (enc := enc) (C := Try.checked) false ⟨#[], #[.int .i64 0, .slice none 0 0], []⟩ 8 (by kernel_rfl) (by kernel_rfl) (by kernel_rfl) (by kernel_rfl)) ?_
  intro W base args ds gs before hval0 hW hcnd _
  have hval : ∀ (j : Nat) t v, Try.f3.params[j]? = some t → args[j]? = some v → Value.okWide Try.prog W .any base t v := hval0
  have hW' := hW
  obtain ⟨p, q, hA0, hV, rfl, hfz, hnd⟩ := hW
  have hA : DataW.TrodAll enc Try.prog W 0 (fun _ => true) true Try.f3.params.toList args.toList ds p := hA0
  rw [Try.params3] at hA hval
  obtain ⟨v0, vs0, d0, ds0, p0, q0, hargs, rfl, rfl, h0, r0'⟩ := trodAll_cons hA
  obtain ⟨v1, vs1, d1, ds1, p1, q1, rfl, rfl, rfl, h1, r1'⟩ := trodAll_cons r0'
  obtain ⟨rfl, rfl, rfl⟩ := trodAll_nil r1'
  obtain rfl : args = #[v0, v1] := by cases args; simp_all
  obtain ⟨rfl, rfl⟩ := trodVars_none hV
  obtain ⟨a0, rfl, rfl, rfl, w0⟩ := open_int Try.underlying3 (hval 0 3 v0 rfl rfl) h0
  have k1 := h1
  have lt1 : ∀ x ∈ p1, x.block < W.heap.size := by obtain ⟨m, hm⟩ := k1; exact DataW.trod_lt m _ _ _ hm
  obtain ⟨s1, len1, cap1, rfl⟩ := okWide_slice Try.underlying22 (hval 1 22 v1 rfl rfl)
  obtain ⟨l1, z1, r1⟩ := open_slice_fk (ks := [.bool, .int .i64, .int .i64, .int .u32]) Try.underlying22 Try.underlying32 (by kernel_rfl) (by kernel_rfl) h1
  clear hA0 hval0
  refine (walk a0 s1 len1 cap1 z1 W w0 l1 r1).mono fun e W' ⟨he, bel⟩ => ?_
  subst he
  exact ⟨_, rfl, _, _, _, [], _, [], hW', trodAll_mk1 (shut_bool Try.underlying4 _), (trodAll_cons_mk (shut_int Try.underlying3 w0) (trodAll_cons_mk (Below.trod laidOut (by kernel_rfl) (of_decide_eq_true (by kernel_rfl)) k1 bel lt1) trodAll_mk0)), rfl, bel.frame _, fun h => by cases h⟩

theorem over : Rows.planPlaysRow.holds Try.pinned (OpenSpec.ofChange Rows.planPlaysSpec) :=
  OpenClaim.holds_of_wide 3 Try.f3 rfl rfl rfl rfl rfl rfl rfl ⟨rfl, rfl, rfl, rfl, rfl⟩ rfl rfl rfl rfl rfl (by kernel_rfl) Try.func3 (by kernel_rfl)
    (of_decide_eq_true (by kernel_rfl)) (by unfold Func.isWrapper; first | (rw [if_pos (by decide +kernel)]; kernel_rfl) | (rw [if_neg (by decide +kernel)]; exact ⟨rfl, rfl⟩))
    (fun os started H enc _ => lifted os started H enc)

/-- the statement -/
theorem proved : Rows.PlanPlaysSaid := over
#print axioms proved
end Go.Proofs.Ytagobcecieplfaa.planPlays
