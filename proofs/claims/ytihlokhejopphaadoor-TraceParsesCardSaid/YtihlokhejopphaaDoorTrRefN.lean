/- The contract of the reference's number. -/
import Derived.Test.YtihlokhejopphaaDoorTrText
namespace Go.Proofs.YtihlokhejopphaaDoor
open Go.RowKit
set_option linter.unusedVariables false

theorem val_lt (p : List UInt8) : (∀ c ∈ p, isDig c = true) → valD p < 10 ^ p.length := by
  induction p using snoc_ind with
  | h0 => intro _; simp [valD]
  | h1 q c ih =>
    intro h
    have h1 := ih fun x hx => h x (by simp [hx])
    have hc := h c (by simp)
    simp only [isDig, decide_eq_true_eq] at hc
    rw [val_snoc, List.length_append, List.length_singleton, Nat.pow_succ]
    omega
theorem numR_nil : numR [] = -1 := by unfold numR; rw [if_pos (.inl rfl)]
theorem numR_long {p : List UInt8} (h : 13 < p.length) : numR p = -1 := by unfold numR; rw [if_pos (.inr (.inl h))]
theorem numR_nought {p : List UInt8} (h : 1 < p.length) (h0 : p.head? = some 48) : numR p = -1 := by unfold numR; rw [if_pos (.inr (.inr (.inl ⟨h, h0⟩)))]
theorem numR_no {p : List UInt8} {k : Nat} {c : UInt8} (hc : p[k]? = some c) (h : isDig c = false) : numR p = -1 := by
  have hn : ¬ ∀ c ∈ p, isDig c = true := fun hh => by
    have := hh c (List.mem_of_getElem? hc)
    rw [h] at this
    cases this
  unfold numR
  rw [if_pos (.inr (.inr (.inr hn)))]
theorem numR_ok {p : List UInt8} (h1 : p ≠ []) (h2 : p.length ≤ 13) (h3 : ¬ (1 < p.length ∧ p.head? = some 48)) (h4 : ∀ c ∈ p, isDig c = true) : numR p = valD p := by
  unfold numR
  rw [if_neg]
  rintro (h | h | h | h)
  · exact h1 h
  · omega
  · exact h3 h
  · exact h h4
theorem index_strB {p : List UInt8} {k : Nat} {c : UInt8} (h : p[k]? = some c) (W : World) : (Instr.index 9 (.string (strB p)) (.int .i64 k)).run Tryd.prog W = .ok (.int .u8 (c.toNat : Nat)) W := by
  have hk := (List.getElem?_eq_some_iff.1 h).1
  have he := (List.getElem?_eq_some_iff.1 h).2
  have hb : (0 : Int) ≤ k ∧ (k : Int) < (strB p).size := ⟨by omega, by rw [strB_size]; omega⟩
  rw [run_index_string _ _ _ _ _ Tryd.underlying9, dif_pos hb]
  have : (strB p)[(k : Int).toNat]'(by omega) = c := by
    show (strB p).data[(k : Int).toNat]'_ = c
    simp [strB, he]
  rw [this]

theorem get_strB {p : List UInt8} {k : Nat} {c : UInt8} (h : p[k]? = some c) (hk : k < (strB p).size) : ((strB p)[k]'hk).toNat = c.toNat := by
  have he := (List.getElem?_eq_some_iff.1 h).2
  have : (strB p)[k]'hk = c := by
    show (strB p).data[k]'_ = c
    simp [strB, he]
  rw [this]

set_option maxHeartbeats 2000000 in
theorem rf_number (p : List UInt8) (hp : p.length ≤ 10000) (w : World) :
    Calls Tryd.prog 30 #[.string (strB p)] w fun e w' => e = .returned (.int .i64 (numR p)) ∧ w' = w := by
  by_cases h0 : p = []
  · subst h0
    have hz : strB [] = ⟨#[]⟩ := rfl
    rw [hz, numR_nil]
    go_enter Tryd.func30, Tryd.ntmps30
    go_wp2
    go_ret
    exact ⟨rfl, rfl⟩
  have hne : ((strB p).toList == (⟨#[]⟩ : ByteArray).toList) = false := by rw [strB_list]; simpa [ByteArray.toList_mk] using h0
  have hsz : (strB p).size = p.length := rfl
  have hem : (strB p).toList.isEmpty = false := by rw [strB_list]; simpa using h0
  by_cases h13 : 13 < p.length
  · have h13' : (13 : Int) < p.length := by omega
    rw [numR_long h13]
    generalize strB p = sp at hne hsz hem
    go_enter Tryd.func30, Tryd.ntmps30
    go_wp2
    go_ret
    exact ⟨rfl, rfl⟩
  have h13' : decide ((13 : Int) < p.length) = false := by simp; omega
  obtain ⟨c0, r0, hcr⟩ : ∃ c r, p = c :: r := by cases p with | nil => exact absurd rfl h0 | cons c r => exact ⟨c, r, rfl⟩
  have hc0 : p[0]? = some c0 := by rw [hcr]; rfl
  have hi0 : ∀ (h : 0 < (strB p).size), ((strB p)[0]'h).toNat = c0.toNat := fun h => get_strB hc0 h
  have hhd : p.head? = some c0 := by rw [hcr]; rfl
  by_cases hn : 1 < p.length ∧ c0 = 48
  · obtain ⟨h1, rfl⟩ := hn
    have h1' : (1 : Int) < p.length := by omega
    rw [numR_nought h1 hhd]
    generalize strB p = sp at hne hsz hem hi0
    clear hcr hc0 hhd
    go_enter Tryd.func30, Tryd.ntmps30
    go_wp2
    go_ret
    exact ⟨rfl, rfl⟩
  have hpl : p.length ≤ 13 := by omega
  have h3 : ¬ (1 < p.length ∧ p.head? = some 48) := fun h => hn ⟨h.1, by have := h.2; rw [hhd] at this; exact Option.some.inj this⟩
  have hN := numR_ok h0 hpl h3
  have hcase : (decide ((1 : Int) < p.length) = false) ∨ ((1 : Int) < p.length ∧ (((c0.toNat : Nat) : Int) == 48) = false) := by
    by_cases h1 : 1 < p.length
    · refine .inr ⟨by omega, ?_⟩
      have : c0 ≠ 48 := fun e => hn ⟨h1, e⟩
      have h48 : c0.toNat ≠ 48 := fun e => this (UInt8.toNat_inj.1 (by simpa using e))
      rw [beq_eq_false_iff_ne]
      omega
    · exact .inl (by simp; omega)
  have hix : ∀ (k : Nat) (c : UInt8), p[k]? = some c → ∀ (h : k < (strB p).size), ((strB p)[k]'h).toNat = c.toNat := fun k c h hk => get_strB h hk
  have HN := Lib.hid (And.intro hN hix)
  clear hN hix hn hcr hc0 hhd h3 h0 h13
  generalize strB p = sp at hne hsz hem hi0 HN ⊢
  obtain ⟨ln, hln⟩ : ∃ ln, ln = p.length := ⟨_, rfl⟩
  rw [← hln] at hsz hpl hcase h13'
  have HL := Lib.hid hln
  clear hln hp
  rcases hcase with hc | ⟨hc, hc2⟩
  all_goals
    go_enter Tryd.func30, Tryd.ntmps30
    go_wp2
    go_loopw [3, 4] (fun nv iv wr => ∃ (i m : Nat), i ≤ ln ∧ iv = .int .i64 i ∧ nv = .int .i64 (m : Nat) ∧ Hid (m = valD (p.take i)) ∧ m ≤ 9999999999999 ∧ Hid (∀ c ∈ p.take i, isDig c = true) ∧ wr = w) (fun _ iv _ => ln - (intOf iv).toNat)
    case atStart => exact ⟨0, 0, Nat.zero_le _, rfl, rfl, Lib.hid rfl, by omega, Lib.hid (by simp), rfl⟩
    case round =>
      obtain ⟨i, m, hi, rfl, rfl, hm, hmb, hd, rfl⟩ := hrel
      by_cases hlt : i < ln
      · have hlt' : (i : Int) < ln := by omega
        have i0 : (0 : Int) ≤ i := by omega
        obtain ⟨c, hc⟩ : ∃ c, p[i]? = some c := ⟨p[i]'(by rw [← HL.out]; exact hlt), List.getElem?_eq_getElem _⟩
        have hrun := HN.out.2 i c hc
        have htk : p.take (i + 1) = p.take i ++ [c] := by
          rw [List.take_succ_eq_append_getElem (by rw [← HL.out]; exact hlt), (List.getElem?_eq_some_iff.1 hc).2]
        by_cases hdc : isDig c = true
        · have hdd : ∀ x ∈ p.take (i + 1), isDig x = true := by
            rw [htk]
            intro x hx
            rcases List.mem_append.1 hx with hx | hx
            · exact hd.out x hx
            · rw [List.mem_singleton] at hx; subst hx; exact hdc
          have hv : valD (p.take (i + 1)) = m * 10 + (c.toNat - 48) := by rw [htk, val_snoc, ← hm.out]
          have hlt13 := val_lt _ hdd
          have hpw : 10 ^ (p.take (i + 1)).length ≤ 10 ^ 13 := Nat.pow_le_pow_right (by decide) (by rw [List.length_take]; omega)
          simp only [isDig, decide_eq_true_eq] at hdc
          obtain ⟨b, hb⟩ : ∃ b, b = c.toNat := ⟨_, rfl⟩
          rw [← hb] at hrun hdc hv
          have hnb : m * 10 + (b - 48) ≤ 9999999999999 := by omega
          have HV := Lib.hid (And.intro hv hdd)
          clear hv hdd hlt13 hpw htk hb hc hm hd hi0
          have b1 : decide ((b : Int) < 48) = false := by simp; omega
          have b2 : decide ((57 : Int) < b) = false := by simp; omega
          have w1 : IntKind.u8.wrap ((b : Int) - 48) = (b : Int) - 48 := by rw [IntKind.wrap_u8]; omega
          have w1' : ((b : Int) - 48) % 256 = (b : Int) - 48 := by omega
          have w2 : IntKind.i64.wrap ((m : Int) * 10) = (m : Int) * 10 := IntWalk.i64_in _ (by omega)
          have w3 : IntKind.i64.wrap ((m : Int) * 10 + ((b : Int) - 48)) = (m : Int) * 10 + ((b : Int) - 48) := IntWalk.i64_in _ (by omega)
          have w4 : IntKind.i64.wrap ((b : Int) - 48) = (b : Int) - 48 := IntWalk.i64_in _ (by omega)
          go_wp2
          go_roundw
          case rel => exact ⟨i + 1, m * 10 + (b - 48), by omega, by go_num, by congr 1; omega, Lib.hid HV.out.1.symm, hnb, Lib.hid HV.out.2, trivial⟩
          case measure => simp [intOf]; omega
        · have hno := numR_no hc (by simpa using hdc)
          simp only [isDig, decide_eq_true_eq] at hdc
          obtain ⟨b, hb⟩ : ∃ b, b = c.toNat := ⟨_, rfl⟩
          rw [← hb] at hrun hdc
          have HV := Lib.hid hno
          clear hno htk hb hc hm hd hi0
          by_cases b1 : (b : Int) < 48
          · go_wp2
            refine bodyPost_ret (results_tmp rfl _ _ _) rfl ?_
            exact ⟨ret_i64 HV.out.symm, rfl⟩
          · have b1' : decide ((b : Int) < 48) = false := by simp; omega
            have b2 : (57 : Int) < b := by omega
            clear b1
            go_wp2
            refine bodyPost_ret (results_tmp rfl _ _ _) rfl ?_
            exact ⟨ret_i64 HV.out.symm, rfl⟩
      · obtain rfl : i = ln := by omega
        have htk : p.take i = p := List.take_of_length_le (by rw [← HL.out]; exact Nat.le_refl _)
        have hE : numR p = m := by rw [HN.out.1 (by have := hd.out; rwa [htk] at this), hm.out, htk]
        have HE := Lib.hid hE
        clear hE hm hd htk hi0
        go_wp2
        go_ret
        exact ⟨ret_i64 HE.out.symm, rfl⟩
end Go.Proofs.YtihlokhejopphaaDoor
