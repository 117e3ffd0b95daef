/- The contracts of (*mem.Mem).Home and of the reference's Homes: a word's home; whether all homes may be. -/
import Derived.Test.YteacdcdjdbobnaaGreatMemRef
namespace Go.Proofs.YteacdcdjdbobnaaGreat
open Go.RowKit
set_option linter.unusedVariables false
set_option maxRecDepth 100000

theorem home_any {m bw : Nat} {hv : Value} {hs ws : List Int} {w : World} (h : MemAt w m bw hv hs ws) (a : Int) :
    Calls Tryz.prog 8 #[.pointer (some ⟨m, 0, none⟩), .int .i64 a] w fun e w' => e = .returned (.int .i64 (loadI hs a)) ∧ w = w' := by
  have hl := h.hlen
  by_cases hk : 0 ≤ a ∧ a < ws.length
  · obtain ⟨k, rfl⟩ := Int.eq_ofNat_of_zero_le hk.1
    have hk : k < ws.length := by omega
    obtain ⟨g, cap, rfl, _, _, _, hr, _⟩ := own_row h.homes (by omega)
    have c0 := h.cell0
    obtain ⟨x, hx⟩ : ∃ x, x = hs.getD k 0 := ⟨_, rfl⟩
    have c2 := hr.cell _ rfl k hk
    rw [← hx, Go.Addr.add_lit, Nat.zero_add] at c2
    have c3 := has_any h (k : Int)
    rw [has_at hk] at c3
    have X := Lib.hid (And.intro hx h)
    clear h hx hr hl
    go_enter Tryz.func8, Tryz.ntmps8
    go_wp2_with (go_at_call 21; refine c3.mono ?_; rintro e w' ⟨rfl, rfl⟩)
    go_ret
    exact ⟨ret_int (by rw [load_at]; exact X.out.1), rfl⟩
  · have c3 := has_any h a
    rw [has_not hk] at c3
    have H := Lib.hid (show loadI hs a = 0 from load_not (by rw [hl]; exact hk))
    clear h hk hl
    go_enter Tryz.func8, Tryz.ntmps8
    go_wp2_with (go_at_call 21; refine c3.mono ?_; rintro e w' ⟨rfl, rfl⟩)
    go_ret
    exact ⟨ret_int H.out.symm, rfl⟩

theorem homes_any {sa : Option Addr} {m cap : Nat} {hs : List Int} {w : World} (h : RowAt .i64 w sa m hs) (hm : m ≤ 9223372036854775807) :
    Calls Tryz.prog 14 #[.slice sa m cap] w fun e w' => e = .returned (.bool (homesOK hs)) ∧ w = w' := by
  have hlen := h.len
  have hat := h.at
  clear h
  go_enter Tryz.func14, Tryz.ntmps14
  go_wp2
  go_loop [7] (fun i => ∃ k : Nat, k ≤ m ∧ i = .int .i64 k ∧ Hid ((hs.take k).all okH = true)) (fun i => m - (intOf i).toNat)
  case atStart => exact ⟨0, Nat.zero_le _, rfl, by simp [Hid]⟩
  case round =>
    obtain ⟨k, hk, rfl, hok⟩ := hrel
    by_cases hlt : k < m
    · rcases hat with h0 | ⟨b, o, rfl, hcell⟩
      · omega
      · obtain ⟨x, hx⟩ : ∃ x, x = hs.getD k 0 := ⟨_, rfl⟩
        have hc := hcell k hlt
        rw [← hx] at hc
        have X1 := Lib.hid (And.intro hx hcell)
        clear hx hcell
        by_cases x0 : x < 0
        · have hb : Hid (homesOK hs = false) := Lib.hid (ok_bad (k := k) (by omega) (by rw [← X1.out.1]; unfold okH; simp; omega))
          go_wp2
          go_ret
          exact ⟨ret_bool hb.out.symm, rfl⟩
        · by_cases x1 : 7 < x
          · have hb : Hid (homesOK hs = false) := Lib.hid (ok_bad (k := k) (by omega) (by rw [← X1.out.1]; unfold okH; simp; omega))
            go_wp2
            go_ret
            exact ⟨ret_bool hb.out.symm, rfl⟩
          · have hb : Hid ((hs.take (k + 1)).all okH = true) := Lib.hid (ok_step (by omega) hok.out (by rw [← X1.out.1]; unfold okH; simp; omega))
            go_wp2
            go_round
            case rel => exact ⟨k + 1, by omega, by go_num, hb⟩
            case measure => simp [intOf]; omega
    · have hb : Hid (homesOK hs = true) := Lib.hid (by have h := hok.out; rw [List.take_of_length_le (by omega)] at h; exact h)
      go_wp2
      go_ret
      exact ⟨ret_bool hb.out.symm, rfl⟩

theorem load_rep (n : Nat) (a : Int) : loadI (List.replicate n 0) a = 0 := by
  unfold loadI
  split
  · rw [List.getD_eq_getElem?_getD, List.getElem?_replicate]
    split <;> rfl
  · rfl
theorem home_rep (n : Nat) : homesOK (List.replicate n 0) = true := by
  unfold homesOK
  rw [List.all_eq_true]
  intro z hz
  rw [List.eq_of_mem_replicate hz]
  decide
/-- a made row of numbers -/
theorem row_made {w : World} {k : IntKind} {t : TypeId} {b L : Nat} (hb : b = w.heap.size) : RowAt k (w.alloc (.cells (madeCells #[.int k 0] L) t)) (some ⟨b, 0, none⟩) L (List.replicate L 0) := by
  subst hb
  refine ⟨by simp, (fun h => nomatch h), fun a ha j hj => ?_⟩
  obtain rfl : ⟨w.heap.size, 0, none⟩ = a := by simpa using ha
  rw [Go.Addr.add_lit, Nat.zero_add, World.cell?_alloc_new]
  simp [madeCells, hj, Nat.mod_one]

theorem load_quiet {m bw : Nat} {hv : Value} {hs ws : List Int} {w : World} (h : MemAt w m bw hv hs ws) (a : Int) :
    Calls Tryz.prog 73 #[.pointer (some ⟨m, 0, none⟩), .int .i64 a] w fun e w' => e = .returned (.int .u32 (loadI ws a)) ∧ w' = w :=
  (load_any h a).mono fun e w' ⟨h1, h2⟩ => ⟨h1, h2.symm⟩

theorem doL_other (ws : List Int) (K a old v : Int) (j : Nat) (h : ¬ (j : Int) = a) : (doL ws K a old v).getD j 0 = ws.getD j 0 := by
  have key : ∀ z, (storeL ws a z).getD j 0 = ws.getD j 0 := by
    intro z
    unfold storeL
    split
    · rw [List.getD_eq_getElem?_getD, List.getD_eq_getElem?_getD, List.getElem?_set]
      rw [if_neg (by omega)]
    · rfl
  unfold doL addL
  split
  · exact key _
  · split
    · unfold casL
      split
      · exact key _
      · rfl
    · split
      · exact key _
      · rfl

theorem ext_getD {l l' : List Int} {n : Nat} (h1 : l.length = n) (h2 : l'.length = n) (h : ∀ j, j < n → l.getD j 0 = l'.getD j 0) : l = l' := by
  apply List.ext_getElem (by omega)
  intro j hj hj'
  have := h j (by omega)
  simpa [hj, hj'] using this
theorem wf_getD {zs : List Int} (h : ∀ z ∈ zs, (Lit.int .u32 z).wf = true) (j : Nat) : 0 ≤ zs.getD j 0 ∧ zs.getD j 0 < 4294967296 := by
  by_cases hj : j < zs.length
  · have e : zs.getD j 0 = zs[j] := by simp [hj]
    rw [e]
    exact u32_bd (h _ (List.getElem_mem hj))
  · simp [List.getElem?_eq_none (show zs.length ≤ j by omega)]
end Go.Proofs.YteacdcdjdbobnaaGreat
