/- For every input the Go function CacheOnce of weighlocklaw03 returns true, and its arguments read afterwards as before. Conditions: none. -/
import Derived.Test.YtdmehgmlomncaaaRows
import Derived.WalkKit
import Derived.ProofKit
import Derived.OpenShut
import Derived.ChangeOld
import Derived.Below
import Derived.Carry
import Derived.Test.YtdmehgmlomncaaaCacheLaw
namespace Go.Proofs.Ytdmehgmlomncaaa.cacheOnce
open Go.ChangeShapes Go.WideShapes Go.ChangeAt Go.RowKit
set_option linter.unusedVariables false

theorem own : ownKnob Try.prog.godebug = none := by kernel_rfl
theorem laidOut : laidOutB Try.prog = true := by kernel_rfl

/-! the walk -/
theorem touchC_len (cs : List Nat) (t a : Nat) (wr : Bool) : (touchC cs t a wr).length = cs.length := by simp [touchC]
theorem touchM_len (cs ms : List Nat) (t a : Nat) (wr : Bool) : (touchM cs ms t a wr).length = ms.length := by unfold touchM; split <;> simp
/-- how many misses thread 0 had, and one more if it has no copy -/
def pot (cs ms : List Nat) : Nat := ms.getD 0 0 + if (cs.getD 0 0).testBit 0 then 0 else 1
theorem pot_other {cs ms : List Nat} (hc : cs.length = 1) {t : Nat} (ht : 0 < t) (wr : Bool) : pot (touchC cs t 0 wr) (touchM cs ms t 0 wr) ≤ pot cs ms + if wr then 1 else 0 := by
  have h1 : (touchM cs ms t 0 wr).getD 0 0 = ms.getD 0 0 := by
    unfold touchM
    split
    · simp [List.getElem?_set, Nat.ne_of_gt ht]
    · rfl
  have h2 : (touchC cs t 0 wr).getD 0 0 = if wr then 2 ^ t else cs.getD 0 0 ||| 2 ^ t := by simp [touchC, hc]
  unfold pot
  rw [h1, h2]
  cases wr
  · simp [Nat.testBit_two_pow, Nat.ne_of_gt ht]
  · simp only [if_true]; split <;> split <;> omega
theorem pot_self {cs ms : List Nat} (hc : cs.length = 1) (hm : ms.length = 8) : pot (touchC cs 0 0 false) (touchM cs ms 0 0 false) = pot cs ms := by
  have h2 : (touchC cs 0 0 false).getD 0 0 = cs.getD 0 0 ||| 2 ^ 0 := by simp [touchC, hc]
  unfold pot
  rw [h2]
  have h3 : (cs.getD 0 0 ||| 2 ^ 0).testBit 0 = true := by simp
  rw [h3, if_pos rfl]
  unfold touchM missB
  cases h : (cs.getD 0 0).testBit 0
  · simp [hm]
  · simp
theorem mod7 (T : Int) : ∃ u : Nat, u < 7 ∧ (wrap64 (T.tmod 7 + 7)).tmod 7 = (u : Int) := by
  have h1 : -7 < T.tmod 7 ∧ T.tmod 7 < 7 := by
    have := Int.tmod_lt_of_pos T (show (0 : Int) < 7 by decide)
    have := Int.lt_tmod_of_pos T (show (0 : Int) < 7 by decide)
    omega
  have h2 : wrap64 (T.tmod 7 + 7) = T.tmod 7 + 7 := IntWalk.wrap64_in _ (by omega)
  rw [h2]
  have h3 := Int.tmod_lt_of_pos (T.tmod 7 + 7) (show (0 : Int) < 7 by decide)
  have h4 : 0 ≤ (T.tmod 7 + 7).tmod 7 := Int.tmod_nonneg 7 (by omega)
  exact ⟨((T.tmod 7 + 7).tmod 7).toNat, by omega, by omega⟩
/-- a cache of 8 threads and one word, of at most this potential -/
def St (w : World) (c bc bm P lim : Nat) : Prop := ∃ cs ms : List Nat, cs.length = 1 ∧ ms.length = 8 ∧ pot cs ms ≤ P ∧ CacheAt w c bc bm cs ms lim
theorem St.after {w w' : World} {c bc bm P lim : Nat} (h : St w c bc bm P lim) (k : Wrote Nil w w') : St w' c bc bm P lim := by
  obtain ⟨cs, ms, h1, h2, h3, h4⟩ := h
  exact ⟨cs, ms, h1, h2, h3, h4.after k⟩
theorem St.lt {w : World} {c bc bm P lim : Nat} (h : St w c bc bm P lim) : bc < w.heap.size ∧ bm < w.heap.size := by
  obtain ⟨cs, ms, _, _, _, h⟩ := h
  exact ⟨h.lt.2.1, h.lt.2.2⟩
def OncePost (c bc bm P lim : Nat) (w : World) (e : Ending) (w' : World) : Prop := ∃ v, e = .returned (.bool v) ∧ St w' c bc bm P lim ∧ Wrote (Two bc bm) w w'
theorem once_other {w : World} {c bc bm P lim : Nat} (h : St w c bc bm P lim) (hl : lim < 1000) (u : Nat) (hu : u < 7) (B : Bool) :
    Calls Try.prog 10 #[.pointer (some ⟨c, 0, none⟩), .int .i64 ((u : Int) + 1), .int .i64 0, .bool B] w (OncePost c bc bm (P + if B then 1 else 0) (lim + 1) w) := by
  obtain ⟨cs, ms, h1, h2, h3, h4⟩ := h
  have d := touch_i h4 ((u : Int) + 1) 0 B (by omega) (by omega) (by omega)
  rw [show ((u : Int) + 1).toNat = u + 1 by omega, show (0 : Int).toNat = 0 from rfl] at d
  refine d.mono ?_
  rintro e w' ⟨he, hC, hW⟩
  exact ⟨_, he, ⟨_, _, by rw [touchC_len]; exact h1, by rw [touchM_len]; exact h2, Nat.le_trans (pot_other h1 (by omega) B) (Nat.add_le_add_right h3 _), hC⟩, hW⟩
theorem once_other7 {w : World} {c bc bm P lim : Nat} (T : Int) (h : St w c bc bm P lim) (hl : lim < 1000) (B : Bool) :
    Calls Try.prog 10 #[.pointer (some ⟨c, 0, none⟩), .int .i64 (wrap64 ((wrap64 (T.tmod 7 + 7)).tmod 7 + 1)), .int .i64 0, .bool B] w (OncePost c bc bm (P + if B then 1 else 0) (lim + 1) w) := by
  obtain ⟨u, hu, hq⟩ := mod7 T
  rw [hq, IntWalk.wrap64_in _ (by omega)]
  exact once_other h hl u hu B
theorem once_self {w : World} {c bc bm P lim : Nat} (h : St w c bc bm P lim) (hl : lim < 1000) :
    Calls Try.prog 10 #[.pointer (some ⟨c, 0, none⟩), .int .i64 0, .int .i64 0, .bool false] w (OncePost c bc bm P (lim + 1) w) := by
  obtain ⟨cs, ms, h1, h2, h3, h4⟩ := h
  have d := touch_i h4 0 0 false (by omega) (by omega) (by omega)
  rw [show (0 : Int).toNat = 0 from rfl] at d
  refine d.mono ?_
  rintro e w' ⟨he, hC, hW⟩
  exact ⟨_, he, ⟨_, _, by rw [touchC_len]; exact h1, by rw [touchM_len]; exact h2, by rw [pot_self h1 h2]; exact h3, hC⟩, hW⟩
theorem once_end {w : World} {c bc bm P lim : Nat} (h : St w c bc bm P lim) :
    Calls Try.prog 11 #[.pointer (some ⟨c, 0, none⟩), .int .i64 0] w fun e w' => ∃ x : Nat, x ≤ P ∧ e = .returned (.int .i64 (x : Int)) ∧ w' = w := by
  obtain ⟨cs, ms, h1, h2, h3, h4⟩ := h
  refine (misses_at h4 0 (by omega)).mono ?_
  rintro e w' ⟨he, hw⟩
  exact ⟨_, Nat.le_trans (Nat.le_add_right _ _) h3, he, hw⟩

/-- behind a touch in the round: of the memory that was there at the law's begin nothing has turned; the round's own touch lies as it lay -/
def TouchedPost (c bc bm P lim q : Nat) (B : Bool) (w0 : World) (e : Ending) (w' : World) : Prop := ∃ v, e = .returned (.bool v) ∧ St w' c bc bm P lim ∧ Wrote Nil w0 w' ∧ w'.cell? ⟨q, 2, none⟩ = some (.bool B)
theorem touched {w0 w : World} {c bc bm P lim q : Nat} {B : Bool} {f : FuncId} {args : Array Value} (h : Calls Try.prog f args w (OncePost c bc bm P lim w)) (hW : Wrote Nil w0 w) (h1 : w0.heap.size ≤ bc) (h2 : w0.heap.size ≤ bm)
    (hx : w.cell? ⟨q, 2, none⟩ = some (.bool B)) (n1 : q ≠ bc) (n2 : q ≠ bm) : Calls Try.prog f args w (TouchedPost c bc bm P lim q B w0) := by
  refine h.mono ?_
  rintro e w' ⟨v, he, hS, hW2⟩
  exact ⟨v, he, hS, hW.trans hW2 (fun b hb x => by rcases x with x | x <;> omega), hW2.cell hx (by intro x; rcases x with x | x <;> simp only at x <;> omega)⟩

set_option maxRecDepth 100000 in
set_option maxHeartbeats 400000 in
theorem walk (s0 : Option Addr) (len0 cap0 : Nat) (z0 : Nat → Nat → Int) (w : World) (l0 : len0 ≤ cap0 ∧ cap0 ≤ maxLen ∧ (s0 = none → cap0 = 0)) (r0 : StructsK w [.int .i64, .int .i64, .bool] s0 len0 z0) :
    Calls Try.prog 4 #[.slice s0 len0 cap0] w fun e w' => e = .returned (.bool true) ∧ Below w.heap.size w w' := by
  have hml : len0 ≤ 9223372036854775807 := by have := l0.1; have := l0.2.1; unfold maxLen at this; omega
  have c1 := cnew_good (w := w) (threads := 8) (words := 1) (by decide) (by decide) (by decide)
  by_cases hl : 60 < len0
  · go_enter Try.func4, Try.ntmps4
    go_wp2_with (first
      | (go_at_call 8; refine c1.mono ?_; rintro e w1 ⟨c, bc, bm, rfl, hC1, q1, q2, q3, hW1⟩)
      | (go_at_call 7; refine (awake_any _).mono ?_; rintro e w6 ⟨rfl, hW6⟩))
    go_ret
    exact ⟨rfl, (hW1.nil hW6).law⟩
  have hat := r0.at (by decide)
  clear r0
  go_enter Try.func4, Try.ntmps4
  go_wp2_with (first
    | (go_at_call 8; refine c1.mono ?_; rintro e w1 ⟨c, bc, bm, rfl, hC1, g1, g2, g3, hW1⟩))
  clear c1
  go_loopw [5, 35] (fun s i wr => ∃ (k n : Nat), k ≤ len0 ∧ i = .int .i64 k ∧ n ≤ k ∧ s = .int .i64 n ∧ St wr c bc bm (1 + n) (3 * k) ∧ Wrote Nil w wr) (fun s i _ => len0 - (intOf i).toNat)
  case atStart => exact ⟨0, 0, Nat.zero_le _, rfl, Nat.le_refl _, rfl, ⟨_, _, rfl, rfl, by decide, hC1⟩, hW1⟩
  case round =>
    clear hC1 hW1
    obtain ⟨k, n, hk, rfl, hnk, rfl, hC, hW⟩ := hrel
    by_cases hlt : k < len0
    · rcases hat with h0 | ⟨ob, oo, rfl, hz⟩
      · omega
      · have q0 : wr.cell? ⟨ob, oo + k * 3, none⟩ = some (.int .i64 (z0 k 0)) := hW.old (hz k hlt 0 _ rfl).1
        have q1 : wr.cell? ⟨ob, oo + k * 3 + 1, none⟩ = some (.int .i64 (z0 k 1)) := hW.old (hz k hlt 1 _ rfl).1
        have q2 : wr.cell? ⟨ob, oo + k * 3 + 2, none⟩ = some (.bool (decide (z0 k 2 = 1))) := hW.old (hz k hlt 2 _ rfl).1
        generalize z0 k 0 = T at q0
        generalize z0 k 1 = A at q1
        generalize decide (z0 k 2 = 1) = B at q2
        have hbl := hC.lt
        have hsz := hW.size
        have dd := touched (B := B) (q := wr.heap.size) (once_other7 T (hC.after ((Wrote.refl Nil wr).alloc (.cells #[.int .i64 T, .int .i64 A, .bool B] 31))) (by omega) B) (hW.alloc _) g2 g3 (by simp) (by omega) (by omega)
        have HC := Lib.hid (And.intro hz (And.intro hC hW))
        clear hz hC hW
        cases B
        · go_wp2_with (first
            | (go_at_call 10; with_reducible refine dd.mono ?_; intro e w2 h2; unfold TouchedPost at h2; obtain ⟨v2, rfl, hC2, hW2, x2⟩ := h2)
            | (go_at_call 10; have d := touched (w0 := w) (once_self hC2 (by omega)) hW2 g2 g3 x2 (by omega) (by omega); with_reducible refine d.mono ?_; intro e w3 h3; unfold TouchedPost at h3; obtain ⟨v3, rfl, hC3, hW3, x3⟩ := h3)
            | (go_at_call 10; have d := touched (w0 := w) (once_self hC3 (by omega)) hW3 g2 g3 x3 (by omega) (by omega); with_reducible refine d.mono ?_; intro e w4 h4; unfold TouchedPost at h4; obtain ⟨v4, rfl, hC4, hW4, x4⟩ := h4))
          go_roundw
          case rel => exact ⟨k + 1, n, by omega, by go_num, by omega, rfl, hC4, hW4⟩
          case measure => simp [intOf]; omega
        · go_wp2_with (first
            | (go_at_call 10; with_reducible refine dd.mono ?_; intro e w2 h2; unfold TouchedPost at h2; obtain ⟨v2, rfl, hC2, hW2, x2⟩ := h2)
            | (go_at_call 10; have d := touched (w0 := w) (once_self hC2 (by omega)) hW2 g2 g3 x2 (by omega) (by omega); with_reducible refine d.mono ?_; intro e w3 h3; unfold TouchedPost at h3; obtain ⟨v3, rfl, hC3, hW3, x3⟩ := h3)
            | (go_at_call 10; have d := touched (w0 := w) (once_self hC3 (by omega)) hW3 g2 g3 x3 (by omega) (by omega); with_reducible refine d.mono ?_; intro e w4 h4; unfold TouchedPost at h4; obtain ⟨v4, rfl, hC4, hW4, x4⟩ := h4))
          go_roundw
          case rel => exact ⟨k + 1, n + 1, by omega, by go_num, by omega, by go_num, hC4, hW4⟩
          case measure => simp [intOf]; omega
    · have ee := once_end hC
      go_wp2_with (first
        | (go_at_call 11; with_reducible refine ee.mono ?_; rintro e w2 ⟨x, hx, rfl, rfl⟩; have hx2 : (x : Int) ≤ 1 + n := by omega)
        | (go_at_call 7; refine (awake_any _).mono ?_; rintro e w6 ⟨rfl, hW6⟩))
      go_ret
      exact ⟨rfl, (hW.nil hW6).law⟩

/-! the row -/
set_option maxRecDepth 100000 in
theorem lifted (os : Os) (started : os.Started) (H : Type) (enc : TypeId × Value → H) :
    ReturnsInHanded {} Try.checked os 4 .any (Rows.cacheOnceSpec.pre6 enc Try.prog Try.f4 Rows.cacheOnceRow.domain false) (Rows.cacheOnceSpec.post enc Try.prog Try.f4 false true false false) := by
  refine returnsInHanded_of_change (C := Try.checked) own started (by kernel_rfl) Try.func4
    (ChangeSpec.witness6 (enc := enc) (C := Try.checked) false ⟨#[], #[.slice none 0 0], []⟩ 8 (by kernel_rfl) (by kernel_rfl) (by kernel_rfl) (by kernel_rfl)) ?_
  intro W base args ds gs before hval0 hW hcnd _
  have hval : ∀ (j : Nat) t v, Try.f4.params[j]? = some t → args[j]? = some v → Value.okWide Try.prog W .any base t v := hval0
  have hW' := hW
  obtain ⟨p, q, hA0, hV, rfl, hfz, hnd⟩ := hW
  have hA : DataW.TrodAll enc Try.prog W 0 (fun _ => true) true Try.f4.params.toList args.toList ds p := hA0
  rw [Try.params4] at hA hval
  obtain ⟨v0, vs0, d0, ds0, p0, q0, hargs, rfl, rfl, h0, r0'⟩ := trodAll_cons hA
  obtain ⟨rfl, rfl, rfl⟩ := trodAll_nil r0'
  obtain rfl : args = #[v0] := by cases args; simp_all
  obtain ⟨rfl, rfl⟩ := trodVars_none hV
  have k0 := h0
  have lt0 : ∀ x ∈ p0, x.block < W.heap.size := by obtain ⟨m, hm⟩ := k0; exact DataW.trod_lt m _ _ _ hm
  obtain ⟨s0, len0, cap0, rfl⟩ := okWide_slice Try.underlying22 (hval 0 22 v0 rfl rfl)
  obtain ⟨l0, z0, r0⟩ := open_slice_fk (ks := [.int .i64, .int .i64, .bool]) Try.underlying22 Try.underlying31 (by kernel_rfl) (by kernel_rfl) h0
  clear hA0 hval0
  refine (walk s0 len0 cap0 z0 W l0 r0).mono fun e W' ⟨he, bel⟩ => ?_
  subst he
  exact ⟨_, rfl, _, _, _, [], _, [], hW', trodAll_mk1 (shut_bool Try.underlying4 _), (trodAll_cons_mk (Below.trod laidOut (by kernel_rfl) (of_decide_eq_true (by kernel_rfl)) k0 bel lt0) trodAll_mk0), rfl, bel.frame _, fun h => by cases h⟩

theorem over : Rows.cacheOnceRow.holds Try.pinned (OpenSpec.ofChange Rows.cacheOnceSpec) :=
  OpenClaim.holds_of_wide 4 Try.f4 rfl rfl rfl rfl rfl rfl rfl ⟨rfl, rfl, rfl, rfl, rfl⟩ rfl rfl rfl rfl rfl (by kernel_rfl) Try.func4 (by kernel_rfl)
    (of_decide_eq_true (by kernel_rfl)) (by unfold Func.isWrapper; first | (rw [if_pos (by decide +kernel)]; kernel_rfl) | (rw [if_neg (by decide +kernel)]; exact ⟨rfl, rfl⟩))
    (fun os started H enc _ => lifted os started H enc)

/-- the statement -/
theorem proved : Rows.CacheOnceSaid := over
#print axioms proved
end Go.Proofs.Ytdmehgmlomncaaa.cacheOnce
