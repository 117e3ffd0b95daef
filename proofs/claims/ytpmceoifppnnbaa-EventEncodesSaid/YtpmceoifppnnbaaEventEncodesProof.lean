/- For every input the Go function EventEncodes of weighlocklaw07 returns true, and its arguments read afterwards as before. Conditions: none. -/
import Derived.Test.YtpmceoifppnnbaaRows
import Derived.WalkKit
import Derived.ProofKit
import Derived.OpenShut
import Derived.ChangeOld
import Derived.Below
import Derived.Carry
import Derived.Test.YtpmceoifppnnbaaEventLaw
import Derived.Test.YtpmceoifppnnbaaEventRef
import Derived.Test.YtpmceoifppnnbaaEventEnc
namespace Go.Proofs.Ytpmceoifppnnbaa.eventEncodes
open Go.ChangeShapes Go.WideShapes Go.ChangeAt Go.RowKit
set_option linter.unusedVariables false

theorem own : ownKnob Try.prog.godebug = none := by kernel_rfl
theorem laidOut : laidOutB Try.prog = true := by kernel_rfl

/-! the walk -/
def trip (z0 : Nat → Nat → Int) (i : Nat) : Ev := (z0 i 0, z0 i 1, z0 i 2)
theorem recs_in {w : World} {sa : Option Addr} {n : Nat} {z0 : Nat → Nat → Int} (h : Structs w [.i64, .i64, .i64] sa n z0) : RecsAt evCells 3 w sa n ((List.range n).map (trip z0)) :=
  h.recs (trip z0) fun i hi j u hu => by
    have hj : j < 3 := (List.getElem?_eq_some_iff.1 hu).1
    have : j = 0 ∨ j = 1 ∨ j = 2 := by omega
    rcases this with rfl | rfl | rfl
    all_goals
      simp only [evCells, trip] at hu
      exact ⟨_, rfl, (Option.some.inj hu).symm⟩

/-- what Encode answered -/
structure EncRes (w w' : World) (D : List Ev) (sb : Option Addr) (nb cb : Nat) (n e : Int) : Prop where
  wrote : Wrote Nil w w'
  ways : (badAt D = D.length ∧ nb = (encs D).length ∧ RowAt .u8 w' sb nb (encs D) ∧ nb ≤ cb ∧ n = (D.length : Nat) ∧ e = 0) ∨ (badAt D < D.length ∧ nb = 0 ∧ n = (badAt D : Nat) ∧ e = 4)
theorem enc_res {w w' : World} {D : List Ev} {e : Ending} (h : EncPost w D e w') : ∃ sb nb cb n E, e = .returned (.tuple #[.slice sb nb cb, .int .i64 n, .int .i64 E]) ∧ EncRes w w' D sb nb cb n E := by
  rcases h with ⟨h1, dv, rfl, hG⟩ | ⟨h1, rfl, hW⟩
  · obtain ⟨so, cp, rfl, h3, _, h2, _⟩ := own_rowAt hG.own
    exact ⟨so, _, cp, _, _, rfl, hG.wrote, .inl ⟨h1, rfl, h2, by omega, rfl, rfl⟩⟩
  · exact ⟨none, 0, 0, _, _, rfl, hW, .inr ⟨h1, rfl, rfl, rfl⟩⟩
theorem grow_empty (w : World) : Grow 5 1 w w.heap.size (w.alloc (.cells #[] 5)) 0 [] (.slice (some ⟨w.heap.size, 0, none⟩) 0 0) :=
  ⟨⟨rfl, .inr ⟨_, 0, #[], rfl, Nat.le_refl _, Go.Deep.blk_alloc_new _ _, Nat.le_refl _, Nat.zero_le _, rfl, rfl⟩⟩, (Wrote.refl _ _).alloc _, by rw [Go.Deep.nblk_alloc]; omega, Nat.le_refl _⟩
theorem ee_step {w0 w w' : World} {D : List Ev} {k c m : Nat} {x : Ev} {ns : List Int} {V news : List Value} {dv v' : Value} (h : EncSt w0 w D k dv) (hx : D[k]? = some x) (he : encE x = ns) (hr : rightE x = true)
    (hc : c = (encs (D.take k)).length ∧ V = (encs (D.take k)).map (Value.int .u8)) (hn : ns.length = m ∧ news = ns.map (Value.int .u8))
    (hg : Grow 5 1 w0 w0.heap.size w' (c + m) (V ++ news) v') : EncSt w0 w' D (k + 1) v' := by
  refine encst_step h hx hr ?_
  rw [he, List.length_append, List.map_append, hn.1, ← hn.2, ← hc.1, ← hc.2]
  exact hg

set_option maxRecDepth 100000 in
set_option maxHeartbeats 2000000 in
theorem walk (s0 : Option Addr) (len0 cap0 : Nat) (z0 : Nat → Nat → Int) (w : World) (l0 : len0 ≤ cap0 ∧ cap0 ≤ maxLen ∧ (s0 = none → cap0 = 0)) (r0 : Structs w [.i64, .i64, .i64] s0 len0 z0) :
    Calls Try.prog 4 #[.slice s0 len0 cap0] w fun e w' => e = .returned (.bool true) ∧ Below w.heap.size w w' := by
  obtain ⟨i0, hi, hz0, hz1, hz2⟩ := info_parts3 info_u8
  have r1 := recs_in r0
  obtain ⟨D, hD⟩ : ∃ D, D = (List.range len0).map (trip z0) := ⟨_, rfl⟩
  rw [← hD] at r1
  have hl := r1.len
  clear hD r0 l0
  by_cases hbig : 200 < len0
  · clear r1 hl
    go_enter Try.func4, Try.ntmps4
    go_wp2_with (go_at_call 6; refine (awake_any _).mono ?_; rintro e w6 ⟨rfl, hW6⟩)
    go_ret
    exact ⟨rfl, hW6.law⟩
  have hbig' : decide ((200 : Int) < len0) = false := by simp; omega
  have hat := r1.at ev_ne
  have c2 : Calls Try.prog 10 #[.slice s0 len0 cap0] w fun e w' => ∃ sb nb cb n E, e = .returned (.tuple #[.slice sb nb cb, .int .i64 n, .int .i64 E]) ∧ EncRes w w' D sb nb cb n E := (ev_encode r1 (by omega)).mono fun _ _ h => enc_res h
  have hn200 : len0 ≤ 200 := by omega
  have HR := Lib.hid (And.intro r1 hl)
  clear r1 hl hbig
  go_enter Try.func4, Try.ntmps4
  go_wp2_with (go_at_call 10; (with_reducible refine c2.mono ?_); rintro e w1 ⟨sb, nb, cb, n, E, rfl, hres⟩; have HN0 := Lib.hid hres; clear hres)
  clear c2
  have h0 : EncSt w1 (w1.alloc (.cells #[] 5)) D 0 (.slice (some ⟨w1.heap.size, 0, none⟩) 0 0) := ⟨Nat.zero_le _, grow_empty w1⟩
  generalize w1.alloc (.cells #[] 5) = w2 at h0 ⊢
  generalize Value.slice (some ⟨w1.heap.size, 0, none⟩) 0 0 = wv0 at h0 ⊢
  go_loopw [6, 25] (fun wv iv wr => ∃ (k : Nat) (v0 : Value), v0 = wv ∧ k ≤ len0 ∧ iv = .int .i64 k ∧ EncSt w1 wr D k wv) (fun _ iv _ => len0 - (intOf iv).toNat)
  case atStart => exact ⟨0, _, rfl, Nat.zero_le _, rfl, h0⟩
  case round =>
    clear h0
    obtain ⟨k, wv, rfl, hk, rfl, hE⟩ := hrel
    by_cases hlt : k < len0
    · rcases hat with h0 | ⟨b, o, rfl, hc⟩
      · omega
      obtain ⟨⟨x0, x1, x2⟩, hx⟩ : ∃ x, D[k]? = some x := ⟨D[k]'(by have := HR.out.2; omega), List.getElem?_eq_getElem _⟩
      have hWr := HN0.out.wrote.nil hE.grow.wrote
      have e0 : wr.cell? ⟨b, o + k * 3, none⟩ = some (.int .i64 x0) := hWr.old (hc k _ hx 0 _ rfl)
      have e1 : wr.cell? ⟨b, o + k * 3 + 1, none⟩ = some (.int .i64 x1) := hWr.old (hc k _ hx 1 _ rfl)
      have e2 : wr.cell? ⟨b, o + k * 3 + 2, none⟩ = some (.int .i64 x2) := hWr.old (hc k _ hx 2 _ rfl)
      obtain ⟨B, hB⟩ : ∃ B, B = rightE (x0, x1, x2) := ⟨_, rfl⟩
      have c3 : ∀ W, Calls Try.prog 9 #[.agg #[.int .i64 x0, .int .i64 x1, .int .i64 x2]] W fun e w' => e = .returned (.bool B) ∧ Wrote Nil W w' := fun W => by
        rw [hB]
        exact ev_right _ _ _ _
      have c4 : ∀ W, Calls Try.prog 11 #[.agg #[.int .i64 x0, .int .i64 x1, .int .i64 x2]] W fun e w' => e = .returned (.bool B) ∧ Wrote Nil W w' := fun W => by
        rw [hB]
        exact ref_right _ _ _ _
      obtain ⟨c, hcc⟩ : ∃ c, c = (encs (D.take k)).length := ⟨_, rfl⟩
      obtain ⟨V, hV⟩ : ∃ V, V = (encs (D.take k)).map (Value.int .u8) := ⟨_, rfl⟩
      have hg : Grow 5 1 w1 w1.heap.size wr c V wv := by rw [hcc, hV]; exact hE.grow
      have hc4 : c ≤ 400 := by have := encs_len (D.take k); have := List.length_take_le k D; omega
      have HE := Lib.hid (And.intro hE hx)
      have HN := Lib.hid (And.intro hcc (And.intro hV hg))
      clear hcc hV hg
      have HB := Lib.hid (And.intro hc (And.intro hB (And.intro hWr hB)))
      clear hE hx hc hB hWr
      cases B
      · have hb := badAt_stop HE.out.2 HE.out.1.good HB.out.2.2.2.symm
        have hres := HN0.out.ways
        have hle := HR.out.2
        have h4 : nb = 0 ∧ n = (k : Nat) ∧ E = 4 := by
          rcases hres with h | h
          · omega
          · exact ⟨h.2.1, by rw [h.2.2.1, hb], h.2.2.2⟩
        obtain ⟨rfl, rfl, rfl⟩ := h4
        clear hb hres hle
        go_wp2_with (first
          | (go_at_call 11; (with_reducible refine (c4 _).mono ?_); rintro e w2 ⟨rfl, hW2⟩; obtain ⟨f0, f1, f2⟩ := three_old hW2; have HW2 := Lib.hid hW2; clear hW2)
          | (go_at_call 9; (with_reducible refine (c3 _).mono ?_); rintro e w3 ⟨rfl, hW3⟩; have HW3 := Lib.hid hW3; clear hW3)
          | (go_at_call 6; (with_reducible refine (awake_any _).mono ?_); rintro e w6 ⟨rfl, hW6⟩; have HW6 := Lib.hid hW6; clear hW6))
        go_ret
        exact ⟨rfl, (HB.out.2.2.1.nil (((((Wrote.refl Nil wr).alloc _).nil HW2.out).nil HW3.out).nil HW6.out)).law⟩
      · have hr := (right_iff x0 x1 x2).1 HB.out.2.2.2.symm
        by_cases q1 : x0 = 1
        · subst q1
          have r0 : 0 ≤ x1 := by omega
          have r1 : x1 ≤ 31 := by omega
          have H6 : Hid (encE (1, x1, x2) = [(8 * x1)]) := Lib.hid (rfl)
          clear hr
          go_wp2_with (first
            | (go_at_call 11; (with_reducible refine (c4 _).mono ?_); rintro e w2 ⟨rfl, hW2⟩; obtain ⟨f0, f1, f2⟩ := three_old hW2; have HW2 := Lib.hid hW2; clear hW2)
            | (go_at_call 9; (with_reducible refine (c3 _).mono ?_); rintro e w3 ⟨rfl, hW3⟩; have f0 := hW3.old f0; have f1 := hW3.old f1; have f2 := hW3.old f2; have HG := Lib.hid (fun o : Obj => ((HN.out.2.2.after (((Wrote.refl Nil wr).alloc _).nil HW2.out)).after hW3).after ((Wrote.refl Nil w3).alloc o)); have HW3 := Lib.hid hW3; clear hW3)
            | (at_builtin; refine wpList_append_own _ rfl _ _ 22 rfl w1.heap.size 5 i0 (.int .u8 0) 1 1 Try.underlying22 hi hz0 hz1 hz2 rfl (by decide) wv c V rfl (HG.out _).own ⟨w3.heap.size, 0, none⟩ 1 1 ([.int .u8 (8 * x1)]) rfl rfl (news_at w3 _ _ _ rfl) (by simp [Value.oneCell']) (by unfold maxLen; omega) (by omega) (HG.out _).size ?_; intro v' w6 hown hgrow hnil; have HG6 := Lib.hid ((HG.out _).more hown hgrow); clear hown hgrow hnil))
          go_roundw
          case rel => exact ⟨k + 1, _, rfl, by omega, by go_num, ee_step HE.out.1 HE.out.2 H6.out HB.out.2.2.2.symm ⟨HN.out.1, HN.out.2.1⟩ ⟨rfl, rfl⟩ HG6.out⟩
          case measure => simp [intOf]; omega
        have t1 : ((x0 : Int) == 1) = false := by simpa using q1
        by_cases q2 : x0 = 2
        · subst q2
          have H6 : Hid (encE (2, x1, x2) = [4]) := Lib.hid (rfl)
          clear hr
          go_wp2_with (first
            | (go_at_call 11; (with_reducible refine (c4 _).mono ?_); rintro e w2 ⟨rfl, hW2⟩; obtain ⟨f0, f1, f2⟩ := three_old hW2; have HW2 := Lib.hid hW2; clear hW2)
            | (go_at_call 9; (with_reducible refine (c3 _).mono ?_); rintro e w3 ⟨rfl, hW3⟩; have f0 := hW3.old f0; have f1 := hW3.old f1; have f2 := hW3.old f2; have HG := Lib.hid (fun o : Obj => ((HN.out.2.2.after (((Wrote.refl Nil wr).alloc _).nil HW2.out)).after hW3).after ((Wrote.refl Nil w3).alloc o)); have HW3 := Lib.hid hW3; clear hW3)
            | (at_builtin; refine wpList_append_own _ rfl _ _ 22 rfl w1.heap.size 5 i0 (.int .u8 0) 1 1 Try.underlying22 hi hz0 hz1 hz2 rfl (by decide) wv c V rfl (HG.out _).own ⟨w3.heap.size, 0, none⟩ 1 1 ([.int .u8 4]) rfl rfl (news_at w3 _ _ _ rfl) (by simp [Value.oneCell']) (by unfold maxLen; omega) (by omega) (HG.out _).size ?_; intro v' w6 hown hgrow hnil; have HG6 := Lib.hid ((HG.out _).more hown hgrow); clear hown hgrow hnil))
          go_roundw
          case rel => exact ⟨k + 1, _, rfl, by omega, by go_num, ee_step HE.out.1 HE.out.2 H6.out HB.out.2.2.2.symm ⟨HN.out.1, HN.out.2.1⟩ ⟨rfl, rfl⟩ HG6.out⟩
          case measure => simp [intOf]; omega
        have t2 : ((x0 : Int) == 2) = false := by simpa using q2
        have r0 : 0 ≤ x1 := by omega
        have r1 : x1 ≤ 31 := by omega
        by_cases q4 : x0 = 4
        · subst q4
          have H6 : Hid (encE (4, x1, x2) = [(8 * x1 + 7)]) := Lib.hid (rfl)
          clear hr
          go_wp2_with (first
            | (go_at_call 11; (with_reducible refine (c4 _).mono ?_); rintro e w2 ⟨rfl, hW2⟩; obtain ⟨f0, f1, f2⟩ := three_old hW2; have HW2 := Lib.hid hW2; clear hW2)
            | (go_at_call 9; (with_reducible refine (c3 _).mono ?_); rintro e w3 ⟨rfl, hW3⟩; have f0 := hW3.old f0; have f1 := hW3.old f1; have f2 := hW3.old f2; have HG := Lib.hid (fun o : Obj => ((HN.out.2.2.after (((Wrote.refl Nil wr).alloc _).nil HW2.out)).after hW3).after ((Wrote.refl Nil w3).alloc o)); have HW3 := Lib.hid hW3; clear hW3)
            | (at_builtin; refine wpList_append_own _ rfl _ _ 22 rfl w1.heap.size 5 i0 (.int .u8 0) 1 1 Try.underlying22 hi hz0 hz1 hz2 rfl (by decide) wv c V rfl (HG.out _).own ⟨w3.heap.size, 0, none⟩ 1 1 ([.int .u8 (8 * x1 + 7)]) rfl rfl (news_at w3 _ _ _ rfl) (by simp [Value.oneCell']) (by unfold maxLen; omega) (by omega) (HG.out _).size ?_; intro v' w6 hown hgrow hnil; have HG6 := Lib.hid ((HG.out _).more hown hgrow); clear hown hgrow hnil))
          go_roundw
          case rel => exact ⟨k + 1, _, rfl, by omega, by go_num, ee_step HE.out.1 HE.out.2 H6.out HB.out.2.2.2.symm ⟨HN.out.1, HN.out.2.1⟩ ⟨rfl, rfl⟩ HG6.out⟩
          case measure => simp [intOf]; omega
        have t4 : ((x0 : Int) == 4) = false := by simpa using q4
        by_cases q5 : x2 < 0
        · have t5 : decide (x2 < 0) = true := by simpa using q5
          have H6 : Hid (encE (x0, x1, x2) = [(8 * x1 + 5)]) := Lib.hid (by unfold encE; simp only; rw [if_neg q2, if_neg q1, if_neg q4, if_pos q5])
          clear hr
          go_wp2_with (first
            | (go_at_call 11; (with_reducible refine (c4 _).mono ?_); rintro e w2 ⟨rfl, hW2⟩; obtain ⟨f0, f1, f2⟩ := three_old hW2; have HW2 := Lib.hid hW2; clear hW2)
            | (go_at_call 9; (with_reducible refine (c3 _).mono ?_); rintro e w3 ⟨rfl, hW3⟩; have f0 := hW3.old f0; have f1 := hW3.old f1; have f2 := hW3.old f2; have HG := Lib.hid (fun o : Obj => ((HN.out.2.2.after (((Wrote.refl Nil wr).alloc _).nil HW2.out)).after hW3).after ((Wrote.refl Nil w3).alloc o)); have HW3 := Lib.hid hW3; clear hW3)
            | (at_builtin; refine wpList_append_own _ rfl _ _ 22 rfl w1.heap.size 5 i0 (.int .u8 0) 1 1 Try.underlying22 hi hz0 hz1 hz2 rfl (by decide) wv c V rfl (HG.out _).own ⟨w3.heap.size, 0, none⟩ 1 1 ([.int .u8 (8 * x1 + 5)]) rfl rfl (news_at w3 _ _ _ rfl) (by simp [Value.oneCell']) (by unfold maxLen; omega) (by omega) (HG.out _).size ?_; intro v' w6 hown hgrow hnil; have HG6 := Lib.hid ((HG.out _).more hown hgrow); clear hown hgrow hnil))
          go_roundw
          case rel => exact ⟨k + 1, _, rfl, by omega, by go_num, ee_step HE.out.1 HE.out.2 H6.out HB.out.2.2.2.symm ⟨HN.out.1, HN.out.2.1⟩ ⟨rfl, rfl⟩ HG6.out⟩
          case measure => simp [intOf]; omega
        · have t5 : decide (x2 < 0) = false := by simpa using q5
          have v0 : 0 ≤ x2 := by omega
          have v1 : x2 ≤ 255 := by omega
          have H6 : Hid (encE (x0, x1, x2) = [(8 * x1 + 6), x2]) := Lib.hid (by unfold encE; simp only; rw [if_neg q2, if_neg q1, if_neg q4, if_neg q5])
          clear hr
          go_wp2_with (first
            | (go_at_call 11; (with_reducible refine (c4 _).mono ?_); rintro e w2 ⟨rfl, hW2⟩; obtain ⟨f0, f1, f2⟩ := three_old hW2; have HW2 := Lib.hid hW2; clear hW2)
            | (go_at_call 9; (with_reducible refine (c3 _).mono ?_); rintro e w3 ⟨rfl, hW3⟩; have f0 := hW3.old f0; have f1 := hW3.old f1; have f2 := hW3.old f2; have HG := Lib.hid (fun o : Obj => ((HN.out.2.2.after (((Wrote.refl Nil wr).alloc _).nil HW2.out)).after hW3).after ((Wrote.refl Nil w3).alloc o)); have HW3 := Lib.hid hW3; clear hW3)
            | (at_builtin; refine wpList_append_own _ rfl _ _ 22 rfl w1.heap.size 5 i0 (.int .u8 0) 1 1 Try.underlying22 hi hz0 hz1 hz2 rfl (by decide) wv c V rfl (HG.out _).own ⟨w3.heap.size, 0, none⟩ 2 2 ([.int .u8 (8 * x1 + 6), .int .u8 x2]) rfl rfl (news_at w3 _ _ _ rfl) (by simp [Value.oneCell']) (by unfold maxLen; omega) (by omega) (HG.out _).size ?_; intro v' w6 hown hgrow hnil; have HG6 := Lib.hid ((HG.out _).more hown hgrow); clear hown hgrow hnil))
          go_roundw
          case rel => exact ⟨k + 1, _, rfl, by omega, by go_num, ee_step HE.out.1 HE.out.2 H6.out HB.out.2.2.2.symm ⟨HN.out.1, HN.out.2.1⟩ ⟨rfl, rfl⟩ HG6.out⟩
          case measure => simp [intOf]; omega
    · obtain rfl : k = len0 := by omega
      have hle := badAt_le D
      have hgood := hE.good
      have hDl := HR.out.2
      have hall : badAt D = D.length := by omega
      have h4 : nb = (encs D).length ∧ RowAt .u8 w1 sb nb (encs D) ∧ nb ≤ cb ∧ n = (k : Nat) ∧ E = 0 := by
        rcases HN0.out.ways with h | h
        · exact ⟨h.2.1, h.2.2.1, h.2.2.2.1, by rw [h.2.2.2.2.1, hDl], h.2.2.2.2.2⟩
        · omega
      obtain ⟨hnb, hrb, hcb, rfl, rfl⟩ := h4
      have hG := hE.grow
      rw [List.take_of_length_le (by omega), ← hnb] at hG
      obtain ⟨sw, cw, rfl, _, _, hrw, _⟩ := own_rowAt hG.own
      have hbytes := encs_bytes D (badAt_all hall)
      have hn4 := encs_len D
      have c5 := dec_any (cap := cb) (hrb.after hG.wrote) hbytes (by omega) hcb
      unfold DecPost at c5
      rw [evs_back D (badAt_all hall), hDl] at c5
      obtain ⟨str, hstr⟩ : ∃ s, s = strOfNums (encs D) := ⟨_, rfl⟩
      have HL := Lib.hid (And.intro hG (And.intro hrw (And.intro hrb (And.intro hstr hDl))))
      have HA := Lib.hid hat
      clear hle hgood hDl hall hnb hrb hG hrw hbytes hn4 hE hstr hcb hat
      go_wp2_with (go_at_call 7; (with_reducible refine c5.mono ?_); rintro e w5 ⟨sk, ck, rfl, hk5, hW5⟩; have hcv1 : (convert 22 9 (.slice sb nb cb)).run Try.prog w5 = .ok (.string str) w5 := (by rw [HL.out.2.2.2.1]; exact conv_str ((HL.out.2.2.1.after HL.out.1.wrote).after hW5)); have hcv2 : (convert 22 9 (.slice sw nb cw)).run Try.prog w5 = .ok (.string str) w5 := (by rw [HL.out.2.2.2.1]; exact conv_str (HL.out.2.1.after hW5)); have HK := Lib.hid (And.intro hk5 hW5); clear hk5 hW5)
      have hW5 : Wrote Nil w w5 := (HN0.out.wrote.nil HL.out.1.wrote).nil HK.out.2
      have hk5 := HK.out.1
      have hat := HA.out
      clear hcv1 hcv2 c5
      go_loopw [139] (fun iv wr => ∃ j : Nat, j ≤ k ∧ iv = .int .i64 j ∧ RecsAt evCells 3 wr sk k D ∧ Wrote Nil w wr) (fun iv _ => k - (intOf iv).toNat)
      case atStart => exact ⟨0, Nat.zero_le _, rfl, hk5, hW5⟩
      case round =>
        clear hW5 hk5
        obtain ⟨j, hj, rfl, hkq, hWq⟩ := hrel
        by_cases hjl : j < k
        · rcases hat with h0 | ⟨b, o, rfl, hc⟩
          · omega
          rcases hkq.at ev_ne with h0 | ⟨b2, o2, rfl, hc2⟩
          · omega
          obtain ⟨⟨x0, x1, x2⟩, hx⟩ : ∃ x, D[j]? = some x := ⟨D[j]'(by have := HR.out.2; omega), List.getElem?_eq_getElem _⟩
          have e0 : wr.cell? ⟨b, o + j * 3, none⟩ = some (.int .i64 x0) := hWq.old (hc j _ hx 0 _ rfl)
          have e1 : wr.cell? ⟨b, o + j * 3 + 1, none⟩ = some (.int .i64 x1) := hWq.old (hc j _ hx 1 _ rfl)
          have e2 : wr.cell? ⟨b, o + j * 3 + 2, none⟩ = some (.int .i64 x2) := hWq.old (hc j _ hx 2 _ rfl)
          have f0 : wr.cell? ⟨b2, o2 + j * 3, none⟩ = some (.int .i64 x0) := hc2 j _ hx 0 _ rfl
          have f1 : wr.cell? ⟨b2, o2 + j * 3 + 1, none⟩ = some (.int .i64 x1) := hc2 j _ hx 1 _ rfl
          have f2 : wr.cell? ⟨b2, o2 + j * 3 + 2, none⟩ = some (.int .i64 x2) := hc2 j _ hx 2 _ rfl
          have HX := Lib.hid (And.intro hkq hWq)
          have HY := Lib.hid (And.intro hc (And.intro hc2 hx))
          have j0 : (0 : Int) ≤ j := by omega
          have j1 : (j : Int) < k := by omega
          clear hkq hWq hc hc2 hx
          go_wp2
          go_quiet (fail)
          go_wp2
          go_roundw
          case rel => exact ⟨j + 1, by omega, by go_num, HX.out.1.after ((Wrote.refl Nil wr).drewN _), HX.out.2.drewN _⟩
          case measure => simp [intOf]; omega
        · have HW := Lib.hid hWq
          clear hat hkq hWq
          go_wp2_with (go_at_call 6; (with_reducible refine (awake_any _).mono ?_); rintro e w6 ⟨rfl, hW6⟩)
          go_ret
          exact ⟨rfl, (HW.out.nil hW6).law⟩

/-! the row -/
set_option maxRecDepth 100000 in
theorem lifted (os : Os) (started : os.Started) (H : Type) (enc : TypeId × Value → H) :
    ReturnsInHanded {} Try.checked os 4 .any (Rows.eventEncodesSpec.pre6 enc Try.prog Try.f4 Rows.eventEncodesRow.domain false) (Rows.eventEncodesSpec.post enc Try.prog Try.f4 false true false false) := by
  refine returnsInHanded_of_change (C := Try.checked) own started (by kernel_rfl) Try.func4
    (ChangeSpec.witness6 (enc := enc) (C := Try.checked) false ⟨#[], #[.slice none 0 0], []⟩ 8 (by kernel_rfl) (by kernel_rfl) (by kernel_rfl) (by kernel_rfl)) ?_
  intro W base args ds gs before hval0 hW hcnd _
  have hval : ∀ (j : Nat) t v, Try.f4.params[j]? = some t → args[j]? = some v → Value.okWide Try.prog W .any base t v := hval0
  have hW' := hW
  obtain ⟨p, q, hA0, hV, rfl, hfz, hnd⟩ := hW
  have hA : DataW.TrodAll enc Try.prog W 0 (fun _ => true) true Try.f4.params.toList args.toList ds p := hA0
  rw [Try.params4] at hA hval
  obtain ⟨v0, vs0, d0, ds0, p0, q0, hargs, rfl, rfl, h0, r0'⟩ := trodAll_cons hA
  obtain ⟨rfl, rfl, rfl⟩ := trodAll_nil r0'
  obtain rfl : args = #[v0] := by cases args; simp_all
  obtain ⟨rfl, rfl⟩ := trodVars_none hV
  have k0 := h0
  have lt0 : ∀ x ∈ p0, x.block < W.heap.size := by obtain ⟨m, hm⟩ := k0; exact DataW.trod_lt m _ _ _ hm
  obtain ⟨s0, len0, cap0, rfl⟩ := okWide_slice Try.underlying24 (hval 0 24 v0 rfl rfl)
  obtain ⟨l0, z0, r0⟩ := open_slice_ints (ks := [.i64, .i64, .i64]) Try.underlying24 Try.underlying29 (by kernel_rfl) (by kernel_rfl) h0
  clear hA0 hval0
  refine (walk s0 len0 cap0 z0 W l0 r0).mono fun e W' ⟨he, bel⟩ => ?_
  subst he
  exact ⟨_, rfl, _, _, _, [], _, [], hW', trodAll_mk1 (shut_bool Try.underlying4 _), (trodAll_cons_mk (Below.trod laidOut (by kernel_rfl) (of_decide_eq_true (by kernel_rfl)) k0 bel lt0) trodAll_mk0), rfl, bel.frame _, fun h => by cases h⟩

theorem over : Rows.eventEncodesRow.holds Try.pinned (OpenSpec.ofChange Rows.eventEncodesSpec) :=
  OpenClaim.holds_of_wide 4 Try.f4 rfl rfl rfl rfl rfl rfl rfl ⟨rfl, rfl, rfl, rfl, rfl⟩ rfl rfl rfl rfl rfl (by kernel_rfl) Try.func4 (by kernel_rfl)
    (of_decide_eq_true (by kernel_rfl)) (by unfold Func.isWrapper; first | (rw [if_pos (by decide +kernel)]; kernel_rfl) | (rw [if_neg (by decide +kernel)]; exact ⟨rfl, rfl⟩))
    (fun os started H enc _ => lifted os started H enc)

/-- the statement -/
theorem proved : Rows.EventEncodesSaid := over
#print axioms proved
end Go.Proofs.Ytpmceoifppnnbaa.eventEncodes
