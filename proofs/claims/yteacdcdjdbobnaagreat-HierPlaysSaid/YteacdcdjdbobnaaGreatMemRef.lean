/- The contracts of the reference's access, and the answers by definition, beside the laws on package mem. -/
import Derived.Test.YteacdcdjdbobnaaGreatMemNew
namespace Go.Proofs.YteacdcdjdbobnaaGreat
open Go.RowKit
set_option linter.unusedVariables false
set_option maxRecDepth 100000

theorem row_one {w : World} {k : IntKind} {z : Int} {t : TypeId} {b : Nat} (hb : b = w.heap.size) : RowAt k (w.alloc (.cells #[.int k z] t)) (some ⟨b, 0, none⟩) 1 [z] := by
  subst hb
  refine ⟨rfl, by simp, fun b hb j hj => ?_⟩
  obtain rfl : ⟨w.heap.size, 0, none⟩ = b := by simpa using hb
  obtain rfl : j = 0 := by omega
  simp [Addr.add]

/-- mem.New, told from an earlier world on -/
theorem new_since {w0 w : World} {sa : Option Addr} {m c : Nat} {hs : List Int} (h0 : Wrote Nil w0 w) (hr : RowAt .i64 w sa m hs) (hm : m ≤ 4096) (ho : homesOK hs = true) :
    Calls Tryz.prog 63 #[.slice sa m c] w fun e w' => ∃ b bw hv, e = .returned (.tuple #[.pointer (some ⟨b, 0, none⟩), .int .i64 0]) ∧ MemAt w' b bw hv hs (List.replicate m 0) ∧ w0.heap.size ≤ b ∧ w0.heap.size ≤ bw ∧ (∀ k, hv.ownBlock = some k → w0.heap.size ≤ k) ∧ Wrote Nil w0 w' := by
  refine (new_ok hr hm ho).mono ?_
  rintro e w' ⟨b, bw, hv, he, hM, h1, h2, h3, hW⟩
  have hs := h0.size
  exact ⟨b, bw, hv, he, hM, by omega, by omega, fun k hk => by have := h3 k hk; omega, h0.nil hW⟩

theorem cas_one (v old : Int) : casB [v] 0 old = decide (v = old) := by simp [casB, hasB, loadI]
theorem casL_one (v old a : Int) : casL [v] 0 old a = if v = old then [a] else [v] := by
  unfold casL
  rw [cas_one]
  by_cases h : v = old <;> simp [h, storeL]

/-! ### an access: kind K (1 Load, 2 Store, 3 Swap, 4 Cas, 5 Add), address a, old, v -/
def doL (ws : List Int) (K a old v : Int) : List Int := if K = 2 ∨ K = 3 then storeL ws a v else if K = 4 then casL ws a old v else if K = 5 then addL ws a v else ws
def tellI (ws : List Int) (K a : Int) : Int := if K = 1 ∨ K = 3 ∨ K = 5 then loadI ws a else 0
def didI (ws : List Int) (K a old : Int) : Int := if K = 4 ∧ casB ws a old = true then 1 else 0
theorem doL_len (ws : List Int) (K a old v : Int) : (doL ws K a old v).length = ws.length := by
  unfold doL addL
  split
  · exact storeL_len _ _ _
  · split
    · exact casL_len _ _ _ _
    · split
      · exact storeL_len _ _ _
      · rfl

/-! ### the reference's answer: a list that is laid anew -/
def DoPost (so0 : Option Addr) (ws : List Int) (K a old v : Int) (w : World) (e : Ending) (w' : World) : Prop :=
  ∃ so cap, e = .returned (.tuple #[.slice so ws.length cap, .int .u32 (tellI ws K a), .int .i64 (didI ws K a old)]) ∧ RowAt .u32 w' so ws.length (doL ws K a old v) ∧ Wrote Nil w w' ∧ ∀ q, so = some q → so0 = some q ∨ w.heap.size ≤ q.block

/-- what is known behind the reference's append -/
theorem laid_anew {w w1 : World} {K a old v : Int} {n : Nat} {ws : List Int} {v' : Value} (hn : 0 < n)
    (hown : w1.ownsRow (w.heap.size + 1) 84 1 v' (0 + n) ([] ++ ws.map (Value.int .u32))) (hgrow : (w.alloc (.cells #[.int .i64 K, .int .i64 a, .int .u32 old, .int .u32 v] 179)).grownBy w1 (Value.ownBlock (.slice none 0 0))) :
    ∃ g cap, v' = .slice (some ⟨g, 0, none⟩) n cap ∧ w.heap.size < g ∧ RowAt .u32 w1 (some ⟨g, 0, none⟩) n ws ∧ (∀ j, w1.frozen? ⟨g, j, none⟩ = false) ∧ Wrote Nil w w1 ∧
      w1.cell? ⟨w.heap.size, 0, none⟩ = some (.int .i64 K) ∧ w1.cell? ⟨w.heap.size, 1, none⟩ = some (.int .i64 a) ∧ w1.cell? ⟨w.heap.size, 2, none⟩ = some (.int .u32 old) ∧ w1.cell? ⟨w.heap.size, 3, none⟩ = some (.int .u32 v) := by
  rw [Nat.zero_add, List.nil_append] at hown
  obtain ⟨g, cap, rfl, _, hb, _, hr, hf⟩ := own_row hown hn
  have hW : Wrote Nil w w1 := ((Wrote.refl Nil w).alloc _).grown hgrow (fun k hk => by simp [Value.ownBlock] at hk)
  have hc : ∀ j, w1.cell? ⟨w.heap.size, j, none⟩ = (w.alloc (.cells #[.int .i64 K, .int .i64 a, .int .u32 old, .int .u32 v] 179)).cell? ⟨w.heap.size, j, none⟩ := fun j =>
    World.cell?_of_block (hgrow.block _ (by rw [Go.Deep.nblk_alloc]; exact Nat.lt_succ_self _) (by simp [Value.ownBlock]))
  refine ⟨g, cap, rfl, by omega, hr, hf, hW, ?_, ?_, ?_, ?_⟩ <;> rw [hc] <;> simp

theorem set_keeps {w1 : World} {g b k j : Nat} {u x : Value} (hc : w1.cell? ⟨b, j, none⟩ = some x) (hne : b < g) : (w1.setCell ⟨g, k, none⟩ u).cell? ⟨b, j, none⟩ = some x := by
  rw [World.cell?_setCell_other _ _ _ _ (by intro h; simp only [Addr.mk.injEq] at h; omega)]
  exact hc

set_option maxRecDepth 100000 in
set_option maxHeartbeats 2000000 in
theorem do_any {so : Option Addr} {cap : Nat} {ws : List Int} {w : World} (h : RowAt .u32 w so ws.length ws) (hsm : ws.length ≤ 1000000) (K a old v : Int) (v0 : 0 ≤ v) (v1 : v < 4294967296) :
    Calls Tryz.prog 121 #[.slice so ws.length cap, .agg #[.int .i64 K, .int .i64 a, .int .u32 old, .int .u32 v]] w (DoPost so ws K a old v w) := by
  obtain ⟨i0, hi, hz0, hz1, hz2⟩ := info_parts info_u32
  have hWX : Wrote Nil w (w.alloc (.cells #[.int .i64 K, .int .i64 a, .int .u32 old, .int .u32 v] 179)) := (Wrote.refl _ w).alloc _
  have hX := h.after hWX
  by_cases ha : 0 ≤ a ∧ a < ws.length
  · obtain ⟨k, rfl⟩ := Int.eq_ofNat_of_zero_le ha.1
    have hk : k < ws.length := by omega
    clear ha
    have n0 : ¬ ws.length ≤ k := by omega
    have n1 : ¬ (k : Int) < 0 := by omega
    rcases hX.at with h0 | ⟨b, o, rfl, hcell⟩
    · omega
    obtain ⟨x, hx⟩ : ∃ x, x = ws.getD k 0 := ⟨_, rfl⟩
    have hc := hcell k hk
    rw [← hx] at hc
    have hnews : ∀ (j : Nat) (u : Value), (ws.map (Value.int .u32))[j]? = some u → (w.alloc (.cells #[.int .i64 K, .int .i64 k, .int .u32 old, .int .u32 v] 179)).cell? ((⟨b, o, none⟩ : Addr).add j) = some u := hX.news _ rfl
    have hone : ∀ u ∈ ws.map (Value.int .u32), u.oneCell' = true := by intro u hu; simp only [List.mem_map] at hu; obtain ⟨z, _, rfl⟩ := hu; rfl
    have hml : 0 + ws.length ≤ maxLen := by unfold maxLen; omega
    have hst : ∀ z, storeL ws k z = ws.set k z := fun z => store_at ws k z
    have hld : loadI ws k = x := by rw [load_at, hx]
    have HH := Lib.hid (And.intro hX (And.intro hWX (And.intro hcell (And.intro hx (And.intro hst hld)))))
    clear hX hWX h hcell hx hst hld
    by_cases k1 : K = 1
    · subst k1
      go_enter Tryz.func121, Tryz.ntmps121
      go_wp2
      go_ret3
      obtain ⟨f1, f2, f3, f4, f5, f6⟩ := HH.out
      unfold DoPost
      exact ⟨some ⟨b, o, none⟩, cap, by simp [tellI, didI, f6], by simpa [doL] using f1, f2, fun q hq => .inl hq⟩
    by_cases k2 : K = 2
    · subst k2
      clear k1
      go_enter Tryz.func121, Tryz.ntmps121
      go_wp2_with (at_builtin; refine wpList_append_own _ rfl _ _ 41 rfl (w.heap.size + 1) 84 i0 (.int .u32 0) 1 4 Tryz.underlying41 hi hz0 hz1 hz2 rfl (by decide) _ _ _ rfl (World.ownsRow_nil _ _ _ _) ⟨b, o, none⟩ ws.length cap (ws.map (Value.int .u32)) rfl (by simp) hnews hone hml (by omega) (by simp) ?_; intro v' w1 hown' hgrow hnil; obtain ⟨g, cp, rfl, hg, hr, hf, hW1, d0, d1, d2, d3⟩ := laid_anew (by omega) hown' hgrow; have hgk := hr.cell _ rfl k hk; rw [Go.Addr.add_lit, Nat.zero_add] at hgk; have hfk := hf k; have e0 := set_keeps (k := k) (u := .int .u32 v) d0 hg; have e1 := set_keeps (k := k) (u := .int .u32 v) d1 hg; have e2 := set_keeps (k := k) (u := .int .u32 v) d2 hg; have e3 := set_keeps (k := k) (u := .int .u32 v) d3 hg; have e4 := World.cell?_setCell_same w1 ⟨g, k, none⟩ (.int .u32 v) hgk; have hr2 := hr.set k hk v; rw [Nat.zero_add] at hr2; have hRR := Lib.hid (And.intro hr (And.intro hr2 (And.intro hW1 hg))); clear hown' hgrow hnil hr hr2 hf hW1)
      go_ret3
      obtain ⟨f1, f2, f3, f4, f5, f6⟩ := HH.out
      obtain ⟨r1, r2, r3, r4⟩ := hRR.out
      unfold DoPost
      exact ⟨some ⟨g, 0, none⟩, cp, by simp [tellI, didI], by simpa [doL, f5] using r2, r3.setCell _ _ (fun h => absurd r4 (by simp only at h; omega)), fun q hq => .inr (by obtain rfl : (⟨g, 0, none⟩ : Addr) = q := Option.some.inj hq; exact Nat.le_of_lt r4)⟩
    by_cases k3 : K = 3
    · subst k3
      clear k1 k2
      go_enter Tryz.func121, Tryz.ntmps121
      go_wp2_with (at_builtin; refine wpList_append_own _ rfl _ _ 41 rfl (w.heap.size + 1) 84 i0 (.int .u32 0) 1 4 Tryz.underlying41 hi hz0 hz1 hz2 rfl (by decide) _ _ _ rfl (World.ownsRow_nil _ _ _ _) ⟨b, o, none⟩ ws.length cap (ws.map (Value.int .u32)) rfl (by simp) hnews hone hml (by omega) (by simp) ?_; intro v' w1 hown' hgrow hnil; obtain ⟨g, cp, rfl, hg, hr, hf, hW1, d0, d1, d2, d3⟩ := laid_anew (by omega) hown' hgrow; have hgk := hr.cell _ rfl k hk; rw [Go.Addr.add_lit, Nat.zero_add] at hgk; have hfk := hf k; have e0 := set_keeps (k := k) (u := .int .u32 v) d0 hg; have e1 := set_keeps (k := k) (u := .int .u32 v) d1 hg; have e2 := set_keeps (k := k) (u := .int .u32 v) d2 hg; have e3 := set_keeps (k := k) (u := .int .u32 v) d3 hg; have e4 := World.cell?_setCell_same w1 ⟨g, k, none⟩ (.int .u32 v) hgk; have hr2 := hr.set k hk v; rw [Nat.zero_add] at hr2; have hRR := Lib.hid (And.intro hr (And.intro hr2 (And.intro hW1 hg))); clear hown' hgrow hnil hr hr2 hf hW1)
      go_ret3
      obtain ⟨f1, f2, f3, f4, f5, f6⟩ := HH.out
      obtain ⟨r1, r2, r3, r4⟩ := hRR.out
      unfold DoPost
      exact ⟨some ⟨g, 0, none⟩, cp, by simp [tellI, didI, f6], by simpa [doL, f5] using r2, r3.setCell _ _ (fun h => absurd r4 (by simp only at h; omega)), fun q hq => .inr (by obtain rfl : (⟨g, 0, none⟩ : Addr) = q := Option.some.inj hq; exact Nat.le_of_lt r4)⟩
    by_cases k4 : K = 4
    · subst k4
      clear k1 k2 k3
      by_cases hb : x = old
      · subst hb
        have hcb : casB ws k x = true := by unfold casB; rw [has_at hk, HH.out.2.2.2.2.2]; simp
        have HB := Lib.hid hcb
        clear hcb
        go_enter Tryz.func121, Tryz.ntmps121
        go_wp2_with (at_builtin; refine wpList_append_own _ rfl _ _ 41 rfl (w.heap.size + 1) 84 i0 (.int .u32 0) 1 4 Tryz.underlying41 hi hz0 hz1 hz2 rfl (by decide) _ _ _ rfl (World.ownsRow_nil _ _ _ _) ⟨b, o, none⟩ ws.length cap (ws.map (Value.int .u32)) rfl (by simp) hnews hone hml (by omega) (by simp) ?_; intro v' w1 hown' hgrow hnil; obtain ⟨g, cp, rfl, hg, hr, hf, hW1, d0, d1, d2, d3⟩ := laid_anew (by omega) hown' hgrow; have hgk := hr.cell _ rfl k hk; rw [Go.Addr.add_lit, Nat.zero_add] at hgk; have hfk := hf k; have e0 := set_keeps (k := k) (u := .int .u32 v) d0 hg; have e1 := set_keeps (k := k) (u := .int .u32 v) d1 hg; have e2 := set_keeps (k := k) (u := .int .u32 v) d2 hg; have e3 := set_keeps (k := k) (u := .int .u32 v) d3 hg; have e4 := World.cell?_setCell_same w1 ⟨g, k, none⟩ (.int .u32 v) hgk; have hr2 := hr.set k hk v; rw [Nat.zero_add] at hr2; have hRR := Lib.hid (And.intro hr (And.intro hr2 (And.intro hW1 hg))); clear hown' hgrow hnil hr hr2 hf hW1)
        go_ret3
        obtain ⟨f1, f2, f3, f4, f5, f6⟩ := HH.out
        obtain ⟨r1, r2, r3, r4⟩ := hRR.out
        unfold DoPost
        exact ⟨some ⟨g, 0, none⟩, cp, by simp [tellI, didI, HB.out], by simpa [doL, casL, HB.out, f5] using r2, r3.setCell _ _ (fun h => absurd r4 (by simp only at h; omega)), fun q hq => .inr (by obtain rfl : (⟨g, 0, none⟩ : Addr) = q := Option.some.inj hq; exact Nat.le_of_lt r4)⟩
      · have hcb : casB ws k old = false := by unfold casB; rw [has_at hk, HH.out.2.2.2.2.2]; simp [hb]
        have HB := Lib.hid hcb
        clear hcb
        go_enter Tryz.func121, Tryz.ntmps121
        go_wp2
        go_ret3
        obtain ⟨f1, f2, f3, f4, f5, f6⟩ := HH.out
        unfold DoPost
        exact ⟨some ⟨b, o, none⟩, cap, by simp [tellI, didI, HB.out], by simpa [doL, casL, HB.out] using f1, f2, fun q hq => .inl hq⟩
    by_cases k5 : K = 5
    · subst k5
      clear k1 k2 k3 k4
      go_enter Tryz.func121, Tryz.ntmps121
      go_wp2_with (at_builtin; refine wpList_append_own _ rfl _ _ 41 rfl (w.heap.size + 1) 84 i0 (.int .u32 0) 1 4 Tryz.underlying41 hi hz0 hz1 hz2 rfl (by decide) _ _ _ rfl (World.ownsRow_nil _ _ _ _) ⟨b, o, none⟩ ws.length cap (ws.map (Value.int .u32)) rfl (by simp) hnews hone hml (by omega) (by simp) ?_; intro v' w1 hown' hgrow hnil; obtain ⟨g, cp, rfl, hg, hr, hf, hW1, d0, d1, d2, d3⟩ := laid_anew (by omega) hown' hgrow; have hgk := hr.cell _ rfl k hk; rw [Go.Addr.add_lit, Nat.zero_add] at hgk; have hfk := hf k; have e0 := set_keeps (k := k) (u := .int .u32 v) d0 hg; have e1 := set_keeps (k := k) (u := .int .u32 v) d1 hg; have e2 := set_keeps (k := k) (u := .int .u32 v) d2 hg; have e3 := set_keeps (k := k) (u := .int .u32 v) d3 hg; have e4 := World.cell?_setCell_same w1 ⟨g, k, none⟩ (.int .u32 v) hgk; have hr2 := hr.set k hk v; rw [Nat.zero_add] at hr2; have hRR := Lib.hid (And.intro hr (And.intro hr2 (And.intro hW1 hg))); clear hown' hgrow hnil hr hr2 hf hW1)
      go_ret3
      obtain ⟨f1, f2, f3, f4, f5, f6⟩ := HH.out
      obtain ⟨r1, r2, r3, r4⟩ := hRR.out
      unfold DoPost
      have r5 := r2.set k hk ((x + v) % 4294967296)
      rw [Nat.zero_add, List.set_set] at r5
      exact ⟨some ⟨g, 0, none⟩, cp, by simp [tellI, didI, f6], by simpa [doL, addL, f5, f6] using r5, (r3.setCell _ _ (fun h => absurd r4 (by simp only at h; omega))).setCell _ _ (fun h => absurd r4 (by simp only at h; omega)), fun q hq => .inr (by obtain rfl : (⟨g, 0, none⟩ : Addr) = q := Option.some.inj hq; exact Nat.le_of_lt r4)⟩
    · have HF : Hid (tellI ws K k = 0 ∧ didI ws K k old = 0 ∧ doL ws K k old v = ws) := Lib.hid (by simp [tellI, didI, doL, k1, k2, k3, k4, k5])
      by_cases k6 : K < 1
      · go_enter Tryz.func121, Tryz.ntmps121
        go_wp2
        go_ret3
        obtain ⟨f1, f2, f3, f4, f5, f6⟩ := HH.out
        obtain ⟨q1, q2, q3⟩ := HF.out
        unfold DoPost
        exact ⟨some ⟨b, o, none⟩, cap, by rw [q1, q2]; rfl, by rw [q3]; exact f1, f2, fun q hq => .inl hq⟩
      · have k7 : 5 < K := by omega
        go_enter Tryz.func121, Tryz.ntmps121
        go_wp2
        go_ret3
        obtain ⟨f1, f2, f3, f4, f5, f6⟩ := HH.out
        obtain ⟨q1, q2, q3⟩ := HF.out
        unfold DoPost
        exact ⟨some ⟨b, o, none⟩, cap, by rw [q1, q2]; rfl, by rw [q3]; exact f1, f2, fun q hq => .inl hq⟩
  · have HF : Hid (tellI ws K a = 0 ∧ didI ws K a old = 0 ∧ doL ws K a old v = ws) := Lib.hid (by
      have e1 := load_not ha
      have e2 : ∀ z, storeL ws a z = ws := fun z => store_not ha
      have e3 : casB ws a old = false := by unfold casB; rw [has_not ha]; rfl
      simp [tellI, didI, doL, casL, addL, e1, e2, e3])
    have HX := Lib.hid (And.intro hX hWX)
    clear hX hWX h
    by_cases h0 : a < 0
    · clear ha
      go_enter Tryz.func121, Tryz.ntmps121
      go_wp2
      go_ret3
      obtain ⟨q1, q2, q3⟩ := HF.out
      unfold DoPost
      exact ⟨so, cap, by rw [q1, q2]; rfl, by rw [q3]; exact HX.out.1, HX.out.2, fun q hq => .inl hq⟩
    · have h1 : (ws.length : Int) ≤ a := by omega
      clear ha
      go_enter Tryz.func121, Tryz.ntmps121
      go_wp2
      go_ret3
      obtain ⟨q1, q2, q3⟩ := HF.out
      unfold DoPost
      exact ⟨so, cap, by rw [q1, q2]; rfl, by rw [q3]; exact HX.out.1, HX.out.2, fun q hq => .inl hq⟩
end Go.Proofs.YteacdcdjdbobnaaGreat
