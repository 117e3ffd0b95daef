/- The contract of the reference's Read. -/
import Derived.Test.YtihlokhejopphaaDoorTrRefN
import Derived.Test.YtihlokhejopphaaDoorTrRead
import Derived.Test.YtihlokhejopphaaDoorTrLines
namespace Go.Proofs.YtihlokhejopphaaDoor
open Go.RowKit
set_option linter.unusedVariables false

theorem splitA_few (l : List UInt8) : ∀ p ∈ splitA l, p.length ≤ l.length := by
  induction l with
  | nil => intro p hp; simp [splitA] at hp; subst hp; exact Nat.le_refl _
  | cons c r ih =>
    intro p hp
    rw [splitA] at hp
    split at hp
    · rcases List.mem_cons.1 hp with rfl | hp
      · exact Nat.zero_le _
      · have := ih p hp
        rw [List.length_cons]
        omega
    · cases hs : splitA r with
      | nil => exact absurd hs (splitA_ne r)
      | cons h t =>
        rw [hs] at hp ih
        rcases List.mem_cons.1 hp with rfl | hp
        · have := ih h (by simp)
          simp only [List.length_cons]
          omega
        · have := ih p (by simp [hp])
          rw [List.length_cons]
          omega
theorem splitA_getD (l : List UInt8) (j : Nat) : ((splitA l).getD j []).length ≤ l.length := by
  rcases Nat.lt_or_ge j (splitA l).length with h | h
  · rw [List.getD_eq_getElem?_getD, List.getElem?_eq_getElem h]
    exact splitA_few l _ (List.getElem_mem h)
  · rw [List.getD_eq_getElem?_getD, List.getElem?_eq_none h]
    exact Nat.zero_le _
/-- how far the reference has parted a line -/
def SplSt (l : List UInt8) (i f : Nat) (P : List (List UInt8)) : Prop :=
  P.length ≤ i ∧ ((i ≤ l.length ∧ f ≤ i ∧ (32 : UInt8) ∉ (l.drop f).take (i - f) ∧ splitA l = P ++ splitA (l.drop f)) ∨ (i = l.length + 1 ∧ P = splitA l))
theorem spl_start (l : List UInt8) : SplSt l 0 0 [] := ⟨Nat.le_refl _, .inl ⟨Nat.zero_le _, Nat.le_refl _, by simp, rfl⟩⟩
theorem drop_cut {l : List UInt8} {i f : Nat} {c : UInt8} (hf : f ≤ i) (hc : l[i]? = some c) : l.drop f = (l.drop f).take (i - f) ++ c :: l.drop (i + 1) := by
  have hi := (List.getElem?_eq_some_iff.1 hc).1
  have he := (List.getElem?_eq_some_iff.1 hc).2
  have h1 := List.take_append_drop (i - f) (l.drop f)
  rw [List.drop_drop, show f + (i - f) = i by omega, List.drop_eq_getElem_cons hi, he] at h1
  exact h1.symm
theorem spl_cut {l : List UInt8} {i f : Nat} {P : List (List UInt8)} (h : SplSt l i f P) (hc : l[i]? = some 32) : SplSt l (i + 1) (i + 1) (P ++ [(l.drop f).take (i - f)]) := by
  have hi := (List.getElem?_eq_some_iff.1 hc).1
  obtain ⟨hn, ⟨h1, h2, h3, h4⟩ | ⟨h1, _⟩⟩ := h
  · refine ⟨by rw [List.length_append, List.length_singleton]; omega, .inl ⟨by omega, Nat.le_refl _, by simp, ?_⟩⟩
    rw [h4, drop_cut h2 hc, splitA_app _ _ h3, List.append_assoc, ← drop_cut h2 hc]
    rfl
  · omega
theorem spl_end {l : List UInt8} {f : Nat} {P : List (List UInt8)} (h : SplSt l l.length f P) : SplSt l (l.length + 1) (l.length + 1) (P ++ [(l.drop f).take (l.length - f)]) := by
  obtain ⟨hn, ⟨h1, h2, h3, h4⟩ | ⟨h1, _⟩⟩ := h
  · refine ⟨by rw [List.length_append, List.length_singleton]; omega, .inr ⟨rfl, ?_⟩⟩
    have ht : (l.drop f).take (l.length - f) = l.drop f := List.take_of_length_le (by rw [List.length_drop]; exact Nat.le_refl _)
    rw [ht] at h3 ⊢
    rw [h4, splitA_no _ h3]
  · omega
theorem spl_on {l : List UInt8} {i f : Nat} {P : List (List UInt8)} {c : UInt8} (h : SplSt l i f P) (hc : l[i]? = some c) (h32 : c ≠ 32) : SplSt l (i + 1) f P := by
  have hi := (List.getElem?_eq_some_iff.1 hc).1
  have he := (List.getElem?_eq_some_iff.1 hc).2
  obtain ⟨hn, ⟨h1, h2, h3, h4⟩ | ⟨h1, _⟩⟩ := h
  · refine ⟨by omega, .inl ⟨by omega, by omega, ?_, h4⟩⟩
    have ht : (l.drop f).take (i + 1 - f) = (l.drop f).take (i - f) ++ [c] := by
      rw [show i + 1 - f = (i - f) + 1 by omega, List.take_succ_eq_append_getElem (by rw [List.length_drop]; omega)]
      congr 2
      rw [List.getElem_drop]
      simp only [show f + (i - f) = i by omega]
      exact he
    rw [ht]
    intro hm
    rcases List.mem_append.1 hm with hm | hm
    · exact h3 hm
    · exact h32 (List.mem_singleton.1 hm).symm
  · omega
theorem strB_sub (l : List UInt8) (f i : Nat) : (strB l).extract f i = strB ((l.drop f).take (i - f)) := by
  apply ByteArray.ext
  apply Array.toList_inj.1
  rw [ByteArray.data_extract]
  simp only [strB, List.extract_toArray, List.extract_eq_take_drop]
theorem info_str : (Tryd.prog.info? 9).map (fun i => (i.zero, i.size, i.bytes)) = some (some (.string ⟨#[]⟩), 1, 16) := by kernel_rfl
def strV (l : List UInt8) : Value := .string (strB l)
theorem str_one (s : ByteArray) : ∀ u ∈ [Value.string s], u.oneCell' = true := by intro u hu; rw [List.mem_singleton] at hu; subst hu; rfl

/-- the kind that the reference has found among the words below k -/
def kd (p : List UInt8) (k : Nat) : Int := if 1 ≤ kindL p ∧ kindL p < k then kindL p else 0
theorem kd_one (p : List UInt8) : kd p 1 = 0 := by unfold kd; rw [if_neg]; rintro ⟨h1, h2⟩; omega
theorem kd_hit {p : List UInt8} {k : Nat} (h : wordL k = p) (h1 : 1 ≤ k) (h9 : k < 9) : kd p (k + 1) = k := by
  have hk := kindL_word k h9
  rw [h] at hk
  unfold kd
  rw [hk, if_pos ⟨by omega, by omega⟩]
theorem kd_miss {p : List UInt8} {k : Nat} (h : ¬ wordL k = p) (h1 : 1 ≤ k) (h9 : k < 9) : kd p (k + 1) = kd p k := by
  have hne : kindL p ≠ k := fun e => by
    have hw := word_kind p (by omega)
    rw [e, Int.toNat_natCast] at hw
    exact h hw.1
  unfold kd
  by_cases hc : 1 ≤ kindL p ∧ kindL p < k
  · rw [if_pos ⟨hc.1, by omega⟩, if_pos hc]
  · rw [if_neg (fun h => hc ⟨h.1, by omega⟩), if_neg hc]
theorem kd_nine (p : List UInt8) : kd p 9 = kindL p := by
  unfold kd
  by_cases h : kindL p = 0
  · rw [h, if_neg (by omega)]
  · have := word_kind p h
    rw [if_pos ⟨this.2.1, by omega⟩]

/-- what the reference's Read answers -/
def RReadPost (w : World) (l : List UInt8) (e : Ending) (w' : World) : Prop :=
  ∃ x : Ent, e = .returned (.tuple #[.agg #[.int .i64 x.k, .int .i64 x.t, .int .i64 x.n, .int .i64 (ldI x.ld)], .bool (rdR l).isSome]) ∧ (∀ y, rdR l = some y → x = y) ∧ Wrote Nil w w'

set_option maxRecDepth 10000 in
set_option maxHeartbeats 4000000 in
theorem rf_read (w : World) (l : List UInt8) (hl : l.length ≤ 1000) :
    Calls Tryd.prog 15 #[.string (strB l)] w (RReadPost w l) := by
  obtain ⟨i0, hi, hz0, hz1, hz2⟩ := info_parts3 info_str
  have hsz : (strB l).size = l.length := rfl
  have hget : ∀ (k : Nat) (c : UInt8), l[k]? = some c → ∀ (h : k < (strB l).size), ((strB l)[k]'h).toNat = c.toNat := fun k c h hk => get_strB h hk
  have hsub : ∀ (f i : Nat), f ≤ i → i ≤ l.length → ∀ W, (Instr.slice 9 (.string (strB l)) (some (.int .i64 (f : Int))) (some (.int .i64 (i : Int))) none).run Tryd.prog W = .ok (.string (strB ((l.drop f).take (i - f)))) W := fun f i h1 h2 W => by
    rw [run_slice_string W 9 (strB l) .i64 .i64 (f : Int) (i : Int) Tryd.underlying9 (by omega) (by omega) (by rw [strB_size]; omega), Int.toNat_natCast, Int.toNat_natCast, strB_sub]
  have hX := (Wrote.refl Nil w).alloc (.cells #[.int .i64 0, .int .i64 0, .int .i64 0, .int .i64 0] 27)
  have hbox := Go.Deep.blk_alloc_new w (.cells #[.int .i64 0, .int .i64 0, .int .i64 0, .int .i64 0] 27)
  obtain ⟨ln, hln⟩ : ∃ ln, ln = l.length := ⟨_, rfl⟩
  have HG := Lib.hid (And.intro hget (And.intro hsub (And.intro hX (And.intro hbox hln))))
  rw [← hln] at hsz hl
  clear hget hsub hX hbox hln
  generalize strB l = ss at hsz HG ⊢
  go_enter Tryd.func15, Tryd.ntmps15
  go_wp2
  obtain ⟨q, hq⟩ : ∃ q, q = w.heap.size := ⟨_, rfl⟩
  obtain ⟨w1, hw1⟩ : ∃ w1, w1 = w.alloc (.cells #[.int .i64 0, .int .i64 0, .int .i64 0, .int .i64 0] 27) := ⟨_, rfl⟩
  have HW := Lib.hid (And.intro hq hw1)
  rw [← hq, ← hw1]
  clear hq hw1
  go_loopw [4, 5, 6] (fun lv fv iv wr => ∃ (i f : Nat) (P : List (List UInt8)) (dv0 : Value), dv0 = lv ∧ iv = .int .i64 i ∧ fv = .int .i64 f ∧ i ≤ ln + 1 ∧ Hid (SplSt l i f P) ∧ Grow 9 1 w1 w1.heap.size wr P.length (P.map strV) lv) (fun _ _ iv _ => ln + 1 - (intOf iv).toNat)
  case atStart => exact ⟨0, 0, [], _, rfl, rfl, rfl, Nat.zero_le _, Lib.hid (spl_start l), grow_here _ _ _⟩
  case round =>
    obtain ⟨i, f, P, dv, rfl, rfl, rfl, hin, hS, hGr⟩ := hrel
    by_cases hle : i ≤ ln
    · have hle' : (i : Int) ≤ ln := by omega
      have hPn : P.length ≤ i := hS.out.1
      have hfi : f ≤ i := by rcases hS.out.2 with h | h; exact h.2.1; have := HG.out.2.2.2.2; omega
      have hsl := HG.out.2.1 f i hfi (by rw [← HG.out.2.2.2.2]; exact hle)
      obtain ⟨pv, hpv⟩ : ∃ pv, pv = (l.drop f).take (i - f) := ⟨_, rfl⟩
      rw [← hpv] at hsl
      have f0 : (0 : Int) ≤ f := by omega
      have i00 : (0 : Int) ≤ i := by omega
      have hfiI : (f : Int) ≤ i := by omega
      by_cases hcutB : i = ln ∨ l[i]? = some 32
      · have hS2 : SplSt l (i + 1) (i + 1) (P ++ [pv]) := by
          rw [hpv]
          rcases hcutB with h | h
          · have h2 : i = l.length := by rw [← HG.out.2.2.2.2]; exact h
            subst h2
            exact spl_end hS.out
          · exact spl_cut hS.out h
        have hguard : ((i : Int) == (ln : Int)) = true ∨ (((i : Int) == (ln : Int)) = false ∧ (i : Int) < ln ∧ ∀ (h : i < ss.size), (ss[i]'h).toNat = 32) := by
          by_cases hil : i = ln
          · exact .inl (beq_iff_eq.2 (by omega))
          · refine .inr ⟨by simp; omega, by omega, fun h => ?_⟩
            rcases hcutB with h2 | h2
            · exact absurd h2 hil
            · exact HG.out.1 i 32 h2 h
        have HS2 := Lib.hid (And.intro hS2 (And.intro hGr (fun (o : Obj) => hGr.after ((Wrote.refl Nil wr).alloc o))))
        obtain ⟨sp, hsp⟩ : ∃ sp, sp = strB pv := ⟨_, rfl⟩
        rw [← hsp] at hsl
        have HSP := Lib.hid hsp
        clear hS hS2 hcutB hpv hGr hsp
        rcases hguard with hg | ⟨hg, hg2, hg3⟩
        all_goals
          go_wp2_with (at_builtin; refine wpList_append_own _ rfl _ _ 71 rfl w1.heap.size 9 i0 (.string ⟨#[]⟩) 1 16 Tryd.underlying71 hi hz0 hz1 hz2 rfl (by decide) dv P.length (P.map strV) rfl (HS2.out.2.2 _).own ⟨wr.heap.size, 0, none⟩ 1 1 [.string sp] rfl rfl (news_at _ _ _ _ (by simp)) (str_one _) (by unfold maxLen; omega) (by omega) (HS2.out.2.2 _).size ?_; intro v' w6 hown hgrow hnil; have HG6 := Lib.hid ((HS2.out.2.2 _).more hown hgrow); clear hown hgrow hnil)
          go_roundw
          case rel => exact ⟨i + 1, i + 1, P ++ [pv], _, rfl, by simp, by simp, by omega, Lib.hid HS2.out.1, by rw [List.length_append, List.map_append]; have := HG6.out; rw [HSP.out] at this; exact this⟩
          case measure => simp [intOf]; omega
      · have hil : i < ln := by
          rcases Nat.lt_or_ge i ln with h | h
          · exact h
          · exact absurd (.inl (by omega)) hcutB
        have hilI : (i : Int) < ln := by omega
        have hneI : ((i : Int) == (ln : Int)) = false := by simp; omega
        obtain ⟨c, hc⟩ : ∃ c, l[i]? = some c := ⟨l[i]'(by rw [← HG.out.2.2.2.2]; exact hil), List.getElem?_eq_getElem _⟩
        have hc32 : c ≠ 32 := fun e => hcutB (.inr (by rw [hc, e]))
        have hS2 := spl_on hS.out hc hc32
        have hg3 := HG.out.1 i c hc
        have hb32 : (((c.toNat : Nat) : Int) == 32) = false := by
          have : c.toNat ≠ 32 := fun e => hc32 (UInt8.toNat_inj.1 (by simpa using e))
          rw [beq_eq_false_iff_ne]; omega
        generalize c.toNat = b at hg3 hb32
        have HS2 := Lib.hid (And.intro hS2 hGr)
        clear hS hS2 hcutB hpv hGr hc hc32 hsl
        go_wp2
        go_roundw
        case rel => exact ⟨i + 1, f, P, _, rfl, by simp, rfl, by omega, Lib.hid HS2.out.1, HS2.out.2⟩
        case measure => simp [intOf]; omega
    · have hi1 : i = ln + 1 := by omega
      have hPs : P = splitA l := by
        rcases hS.out.2 with h | h
        · have := HG.out.2.2.2.2; omega
        · exact h.2
      have hWw : Wrote Nil w wr := HG.out.2.2.1.nil (by rw [← HW.out.2]; exact hGr.wrote)
      have hbq : wr.heap[q]? = some (.cells #[.int .i64 0, .int .i64 0, .int .i64 0, .int .i64 0] 27 (0, 0)) := by
        have h1 : w1.heap[q]? = some (.cells #[.int .i64 0, .int .i64 0, .int .i64 0, .int .i64 0] 27 (0, 0)) := by rw [HW.out.2, HW.out.1]; exact HG.out.2.2.2.1
        exact (hGr.wrote.block q (blk_lt h1) id).trans h1
      have hq1 : q < w1.heap.size := by rw [HW.out.2, HW.out.1]; simp
      obtain ⟨sa, cap, rfl⟩ := hGr.form
      have hrow : ∀ j, j < P.length → ∃ g, sa = some ⟨g, 0, none⟩ ∧ w1.heap.size ≤ g ∧ g < wr.heap.size ∧ wr.cell? ⟨g, j, none⟩ = some (.string (strB (P.getD j []))) := fun j hj => by
        obtain ⟨g, hg, hc, _⟩ := ownsRow_cell hGr.own hj
        have hlt := hGr.lt g (by rw [hg]; rfl)
        refine ⟨g, hg, hlt.1, hlt.2, ?_⟩
        rw [hc, List.getElem?_map, List.getElem?_eq_getElem hj, List.getD_eq_getElem?_getD, List.getElem?_eq_getElem hj]
        rfl
      have hrd : rdR l = if P.length < 3 ∨ 4 < P.length ∨ (P.length = 4 ∧ P.getD 3 [] ≠ leadL) then none else if mayE (entR P) = true then some (entR P) else none := by rw [hPs]; rfl
      obtain ⟨np, hnp⟩ : ∃ np, np = P.length := ⟨_, rfl⟩
      have hnpb : np ≤ 1001 := by have := hS.out.1; omega
      have hlen : ∀ j, (P.getD j []).length ≤ 10000 := fun j => by rw [hPs]; have := splitA_getD l j; have := HG.out.2.2.2.2; omega
      have HP := Lib.hid (And.intro hrd (And.intro hrow (And.intro hnp (And.intro hq1 hGr))))
      rw [← hnp]
      clear hS hGr hPs hrd hrow hi1 hq1 hnp hin
      have hways : (np < 3) ∨ (4 < np) ∨ (np = 4 ∧ P.getD 3 [] ≠ leadL) ∨ (np = 3) ∨ (np = 4 ∧ P.getD 3 [] = leadL) := by
        by_cases h4 : np = 4
        · by_cases hp : P.getD 3 [] = leadL
          · exact .inr (.inr (.inr (.inr ⟨h4, hp⟩)))
          · exact .inr (.inr (.inl ⟨h4, hp⟩))
        · omega
      rcases hways with h3 | h5 | ⟨h4, h4p⟩ | hgood
      · have hno : rdR l = none := by rw [HP.out.1, if_pos (.inl (by rw [← HP.out.2.2.1]; exact h3))]
        have h3I : (np : Int) < 3 := by omega
        have k0 := blk_cell hbq 0
        have k1 := blk_cell hbq 1
        have k2 := blk_cell hbq 2
        have k3 := blk_cell hbq 3
        have f0 := blk_frozen hbq 0
        have f1 := blk_frozen hbq 1
        have f2 := blk_frozen hbq 2
        have f3 := blk_frozen hbq 3
        have HB := Lib.hid (And.intro hbq (And.intro hWw hno))
        clear hbq hWw hno
        go_wp2
        have hb := four_set HB.out.1 (.int .i64 0) (.int .i64 0) (.int .i64 0) (.int .i64 0)
        have hW := four_wrote HB.out.2.1 (b := q) (Nat.le_of_eq HW.out.1.symm) (.int .i64 0) (.int .i64 0) (.int .i64 0) (.int .i64 0)
        refine bodyPost_ret (v := .tuple #[.agg #[.int .i64 0, .int .i64 0, .int .i64 0, .int .i64 0], .bool false]) ?_ rfl ?_
        · have e0 := blk_cell hb 0
          have e1 := blk_cell hb 1
          have e2 := blk_cell hb 2
          have e3 := blk_cell hb 3
          simp [results, Tryd.f15, go_sem, e0, e1, e2, e3]
        · refine ⟨⟨0, 0, 0, false⟩, by rw [HB.out.2.2]; rfl, fun y hy => ?_, hW⟩
          rw [HB.out.2.2] at hy
          cases hy
      · have hno : rdR l = none := by rw [HP.out.1, if_pos (.inr (.inl (by rw [← HP.out.2.2.1]; exact h5)))]
        have h3I : decide ((np : Int) < 3) = false := by simp; omega
        have h5I : (4 : Int) < np := by omega
        have k0 := blk_cell hbq 0
        have k1 := blk_cell hbq 1
        have k2 := blk_cell hbq 2
        have k3 := blk_cell hbq 3
        have f0 := blk_frozen hbq 0
        have f1 := blk_frozen hbq 1
        have f2 := blk_frozen hbq 2
        have f3 := blk_frozen hbq 3
        have HB := Lib.hid (And.intro hbq (And.intro hWw hno))
        clear hbq hWw hno
        go_wp2
        have hb := four_set HB.out.1 (.int .i64 0) (.int .i64 0) (.int .i64 0) (.int .i64 0)
        have hW := four_wrote HB.out.2.1 (b := q) (Nat.le_of_eq HW.out.1.symm) (.int .i64 0) (.int .i64 0) (.int .i64 0) (.int .i64 0)
        refine bodyPost_ret (v := .tuple #[.agg #[.int .i64 0, .int .i64 0, .int .i64 0, .int .i64 0], .bool false]) ?_ rfl ?_
        · have e0 := blk_cell hb 0
          have e1 := blk_cell hb 1
          have e2 := blk_cell hb 2
          have e3 := blk_cell hb 3
          simp [results, Tryd.f15, go_sem, e0, e1, e2, e3]
        · refine ⟨⟨0, 0, 0, false⟩, by rw [HB.out.2.2]; rfl, fun y hy => ?_, hW⟩
          rw [HB.out.2.2] at hy
          cases hy
      · have hno : rdR l = none := by rw [HP.out.1, if_pos (.inr (.inr ⟨by rw [← HP.out.2.2.1]; exact h4, h4p⟩))]
        subst h4
        obtain ⟨g, rfl, _, _, hc3⟩ := HP.out.2.1 3 (by rw [← HP.out.2.2.1]; omega)
        have hne : ((strB (P.getD 3 [])).toList == [108, 101, 97, 100]) = false := by
          rw [strB_list]
          simpa [leadL] using h4p
        clear h4p
        generalize strB (P.getD 3 []) = s3 at hc3 hne
        have k0 := blk_cell hbq 0
        have k1 := blk_cell hbq 1
        have k2 := blk_cell hbq 2
        have k3 := blk_cell hbq 3
        have f0 := blk_frozen hbq 0
        have f1 := blk_frozen hbq 1
        have f2 := blk_frozen hbq 2
        have f3 := blk_frozen hbq 3
        have HB := Lib.hid (And.intro hbq (And.intro hWw hno))
        clear hbq hWw hno
        go_wp2
        have hb := four_set HB.out.1 (.int .i64 0) (.int .i64 0) (.int .i64 0) (.int .i64 0)
        have hW := four_wrote HB.out.2.1 (b := q) (Nat.le_of_eq HW.out.1.symm) (.int .i64 0) (.int .i64 0) (.int .i64 0) (.int .i64 0)
        refine bodyPost_ret (v := .tuple #[.agg #[.int .i64 0, .int .i64 0, .int .i64 0, .int .i64 0], .bool false]) ?_ rfl ?_
        · have e0 := blk_cell hb 0
          have e1 := blk_cell hb 1
          have e2 := blk_cell hb 2
          have e3 := blk_cell hb 3
          simp [results, Tryd.f15, go_sem, e0, e1, e2, e3]
        · refine ⟨⟨0, 0, 0, false⟩, by rw [HB.out.2.2]; rfl, fun y hy => ?_, hW⟩
          rw [HB.out.2.2] at hy
          cases hy
      · have h34 : np = 3 ∨ np = 4 := by omega
        obtain ⟨g, rfl, hg1, hg2, c0⟩ := HP.out.2.1 0 (by rw [← HP.out.2.2.1]; omega)
        obtain ⟨g', hgg, _, _, c1⟩ := HP.out.2.1 1 (by rw [← HP.out.2.2.1]; omega)
        cases hgg
        obtain ⟨g', hgg, _, _, c2⟩ := HP.out.2.1 2 (by rw [← HP.out.2.2.1]; omega)
        cases hgg
        have hlead : np = 4 → wr.cell? ⟨g, 3, none⟩ = some (.string ⟨#[108, 101, 97, 100]⟩) := fun h4 => by
          obtain ⟨g', hgg, _, _, c3⟩ := HP.out.2.1 3 (by rw [← HP.out.2.2.1]; omega)
          cases hgg
          rw [c3]
          have h := hgood.resolve_left (by omega)
          rw [h.2]
          rfl
        obtain ⟨bv, hbv⟩ : ∃ bv, bv = decide (np = 4) := ⟨_, rfl⟩
        obtain ⟨p0, hp0⟩ : ∃ p0, p0 = P.getD 0 [] := ⟨_, rfl⟩
        obtain ⟨p1, hp1⟩ : ∃ p1, p1 = P.getD 1 [] := ⟨_, rfl⟩
        obtain ⟨p2, hp2⟩ : ∃ p2, p2 = P.getD 2 [] := ⟨_, rfl⟩
        have hX : entR P = ⟨kindL p0, numR p1, numR p2, bv⟩ := by rw [hbv, hp0, hp1, hp2]; unfold entR; rw [← HP.out.2.2.1]
        have hans : rdR l = if mayE ⟨kindL p0, numR p1, numR p2, bv⟩ = true then some ⟨kindL p0, numR p1, numR p2, bv⟩ else none := by
          rw [HP.out.1, if_neg, hX]
          rw [← HP.out.2.2.1]
          rintro (h | h | ⟨h, h2⟩)
          · omega
          · omega
          · exact h2 (hgood.resolve_left (by omega)).2
        have n1 := fun W => rf_number p1 (by rw [hp1]; exact hlen 1) W
        have n2 := fun W => rf_number p2 (by rw [hp2]; exact hlen 2) W
        rw [← hp0] at c0
        rw [← hp1] at c1
        rw [← hp2] at c2
        have HA := Lib.hid (And.intro hans (And.intro hWw (And.intro hbq (And.intro hg2 (And.intro hbv c0)))))
        clear hX hans hlen hp0 hp1 hp2 hWw hbq hg2 c0 hgood hg1
        generalize numR p1 = t at n1 HA
        generalize numR p2 = n at n2 HA
        generalize strB p1 = s1 at c1 n1
        generalize strB p2 = s2 at c2 n2
        have hS : ∀ W, Since wr W → (W.cell? ⟨g, 1, none⟩ = some (.string s1) ∧ W.cell? ⟨g, 2, none⟩ = some (.string s2)) := fun W h => ⟨h.wrote.old c1, h.wrote.old c2⟩
        have HS := Lib.hid hS
        have HNn := Lib.hid (And.intro n1 n2)
        clear hS n1 n2 hbv
        rcases h34 with rfl | rfl
        · obtain rfl : bv = false := by have := HA.out.2.2.2.2.1; simpa using this
          have hld : ldI false = 0 := rfl
          clear hlead
          go_wp2
          go_cut [7] from 9 (fun pv w' => ∃ b, pv = .pointer (some ⟨b, 0, none⟩) ∧ Done wr 27 #[.int .i64 0, .int .i64 t, .int .i64 n, .int .i64 0] w' b)
          case first =>
            clear HA HP HG HW
            go_region_held3 (fun W => W.cell? ⟨g, 1, none⟩ = some (.string s1) ∧ W.cell? ⟨g, 2, none⟩ = some (.string s2)) (first | with_reducible exact HS.out _ ⟨((Wrote.refl Nil wr).alloc _).drew⟩ | with_reducible exact HS.out _ ⟨((Wrote.refl Nil wr).drew).alloc _⟩ | with_reducible exact HS.out _ ⟨(Wrote.refl Nil wr).drew⟩)
              (first | (go_at_call 30; (with_reducible refine (HNn.out.1 _).mono ?_); rintro e w3 ⟨rfl, rfl⟩) | (go_at_call 30; (with_reducible refine (HNn.out.2 _).mono ?_); rintro e w3 ⟨rfl, rfl⟩))
            all_goals
              go_wp2
              go_meet
              first
                | exact ⟨_, rfl, ⟨((Wrote.refl Nil wr).alloc _).drew, Go.Deep.blk_alloc_new wr _, Nat.le_refl _⟩⟩
                | exact ⟨_, rfl, ⟨((Wrote.refl Nil wr).drew).alloc _, Go.Deep.blk_alloc_new wr.drew _, Nat.le_refl _⟩⟩
          case rest =>
            obtain ⟨b, rfl, HR⟩ := hcut
            generalize wc = Z at HR ⊢
            have hgb : g ≠ b := by have := HA.out.2.2.2.1; have := HR.new; omega
            have hqb : b ≠ q := by have := blk_lt HA.out.2.2.1; have := HR.new; omega
            have hblk := And.intro HR.blk (Nat.le_trans HA.out.2.1.size HR.new)
            have c0Z : Z.cell? ⟨g, 0, none⟩ = some (.string (strB p0)) := HR.wrote.old HA.out.2.2.2.2.2
            have hqZ := (HR.wrote.block q (blk_lt HA.out.2.2.1) id).trans HA.out.2.2.1
            have hWZ := HA.out.2.1.nil HR.wrote
            have HZ := Lib.hid (And.intro hgb (And.intro hqb (And.intro c0Z (And.intro hqZ (And.intro hWZ hblk)))))
            clear hgb hqb hblk c0Z hqZ hWZ HR HS HNn c1 c2
            go_wp2
            go_loopw [8] (fun kv wx => ∃ k : Nat, 1 ≤ k ∧ k ≤ 9 ∧ kv = .int .i64 k ∧ Hid (wx.heap[b]? = some (.cells #[.int .i64 (kd p0 k), .int .i64 t, .int .i64 n, .int .i64 0] 27 (0, 0))) ∧ Wrote (One b) Z wx) (fun kv _ => 9 - (intOf kv).toNat)
            case atStart => exact ⟨1, Nat.le_refl _, by omega, rfl, Lib.hid (by rw [kd_one]; exact HZ.out.2.2.2.2.2.1), Wrote.refl _ _⟩
            case round =>
              obtain ⟨k, hk1, hk9, rfl, hbk, hWx⟩ := hrel
              have c0x : wr.cell? ⟨g, 0, none⟩ = some (.string (strB p0)) := hWx.cell HZ.out.2.2.1 HZ.out.1
              by_cases hlt : k < 9
              · have hltI : (k : Int) < 9 := by omega
                have k0I : (0 : Int) ≤ k := by omega
                have hw := words_at k hlt
                have cW := fun W => rf_words W
                have hSx : ∀ W, Since wr W → W.cell? ⟨g, 0, none⟩ = some (.string (strB p0)) := fun W h => h.wrote.old c0x
                have hbx : ∀ W, Since wr W → W.heap[b]? = some (.cells #[.int .i64 (kd p0 k), .int .i64 t, .int .i64 n, .int .i64 0] 27 (0, 0)) ∧ Wrote (One b) Z W := fun W h => ⟨(h.wrote.block b (blk_lt hbk.out) id).trans hbk.out, hWx.trans h.wrote (fun _ _ x => x.elim)⟩
                by_cases he : wordL k = p0
                · have hkd := kd_hit he hk1 hlt
                  rw [he] at hw
                  have HX := Lib.hid (And.intro hSx (And.intro hbx (And.intro hkd cW)))
                  clear hSx hbx hkd cW he hbk hWx
                  generalize strB p0 = s0 at c0x hw HX
                  generalize wordsV = wv at hw HX
                  go_wp2
                  go_region_held3 (fun W => W.cell? ⟨g, 0, none⟩ = some (.string s0)) (first | with_reducible exact HX.out.1 _ hA | with_reducible exact HX.out.1 _ ⟨(Wrote.refl Nil wr).drew⟩)
                    (first | (go_at_call 22; (with_reducible refine (HX.out.2.2.2 _).mono ?_); rintro e w3 ⟨rfl, hA1⟩; have hA : Since wr w3 := ⟨((Wrote.refl Nil wr).drew).nil hA1⟩; have bb := (HX.out.2.1 _ hA).1; have kk0 := blk_cell bb 0; have ff0 := blk_frozen bb 0))
                  all_goals
                    go_wp2
                    have hb2 := blk_setCell bb 0 (.int .i64 k)
                    have hW2 : Wrote (One b) Z (w3.setCell ⟨b, 0, none⟩ (.int .i64 k)) := (HX.out.2.1 _ hA).2.setCell ⟨b, 0, none⟩ _ (fun _ => rfl)
                    exact ⟨⟨k + 1, by omega, by omega, by simp, Lib.hid (by rw [HX.out.2.2.1]; simpa using hb2), hW2⟩, by simp [intOf]; omega⟩
                · have hkd := kd_miss he hk1 hlt
                  have hne : ((strB (wordL k)).toList == (strB p0).toList) = false := by rw [strB_list, strB_list]; simpa using he
                  have HX := Lib.hid (And.intro hSx (And.intro hbx (And.intro hkd cW)))
                  clear hSx hbx hkd cW he hbk hWx
                  generalize strB (wordL k) = sk at hw hne
                  generalize strB p0 = s0 at c0x hne HX
                  generalize wordsV = wv at hw HX
                  go_wp2
                  go_region_held3 (fun W => W.cell? ⟨g, 0, none⟩ = some (.string s0)) (first | with_reducible exact HX.out.1 _ hA | with_reducible exact HX.out.1 _ ⟨(Wrote.refl Nil wr).drew⟩)
                    (first | (go_at_call 22; (with_reducible refine (HX.out.2.2.2 _).mono ?_); rintro e w3 ⟨rfl, hA1⟩; have hA : Since wr w3 := ⟨((Wrote.refl Nil wr).drew).nil hA1⟩))
                  all_goals
                    go_wp2
                    exact ⟨⟨k + 1, by omega, by omega, by simp, Lib.hid (by rw [HX.out.2.2.1]; exact (HX.out.2.1 _ hA).1), (HX.out.2.1 _ hA).2⟩, by simp [intOf]; omega⟩
              · obtain rfl : k = 9 := by omega
                have hb9 := hbk.out
                rw [kd_nine] at hb9
                have hqx : wr.heap[q]? = some (.cells #[.int .i64 0, .int .i64 0, .int .i64 0, .int .i64 0] 27 (0, 0)) := (hWx.block q (blk_lt HZ.out.2.2.2.1) (fun e => HZ.out.2.1 e.symm)).trans HZ.out.2.2.2.1
                have hWq : Wrote Nil w wr := HZ.out.2.2.2.2.1.one hWx HZ.out.2.2.2.2.2.2
                generalize hkk : kindL p0 = kk at hb9 HA
                have hqb := HZ.out.2.1
                have e0 : wr.cell? ⟨b, 0, none⟩ = some (.int .i64 kk) := blk_cell hb9 0
                have e1 : wr.cell? ⟨b, 1, none⟩ = some (.int .i64 t) := blk_cell hb9 1
                have e2 : wr.cell? ⟨b, 2, none⟩ = some (.int .i64 n) := blk_cell hb9 2
                have e3 : wr.cell? ⟨b, 3, none⟩ = some (.int .i64 0) := blk_cell hb9 3
                have hS1 : ∀ W, Since wr W → (W.cell? ⟨b, 0, none⟩ = some (.int .i64 kk) ∧ W.cell? ⟨b, 1, none⟩ = some (.int .i64 t) ∧ W.cell? ⟨b, 2, none⟩ = some (.int .i64 n) ∧ W.cell? ⟨b, 3, none⟩ = some (.int .i64 0)) := fun W h => ⟨h.wrote.old e0, h.wrote.old e1, h.wrote.old e2, h.wrote.old e3⟩
                have hS2 : ∀ W x0 x1 x2 x3, Since wr W → (((((W.setCell ⟨q, 0, none⟩ x0).setCell ⟨q, 1, none⟩ x1).setCell ⟨q, 2, none⟩ x2).setCell ⟨q, 3, none⟩ x3).cell? ⟨b, 0, none⟩ = some (.int .i64 kk) ∧ ((((W.setCell ⟨q, 0, none⟩ x0).setCell ⟨q, 1, none⟩ x1).setCell ⟨q, 2, none⟩ x2).setCell ⟨q, 3, none⟩ x3).cell? ⟨b, 1, none⟩ = some (.int .i64 t) ∧ ((((W.setCell ⟨q, 0, none⟩ x0).setCell ⟨q, 1, none⟩ x1).setCell ⟨q, 2, none⟩ x2).setCell ⟨q, 3, none⟩ x3).cell? ⟨b, 2, none⟩ = some (.int .i64 n) ∧ ((((W.setCell ⟨q, 0, none⟩ x0).setCell ⟨q, 1, none⟩ x1).setCell ⟨q, 2, none⟩ x2).setCell ⟨q, 3, none⟩ x3).cell? ⟨b, 3, none⟩ = some (.int .i64 0)) := fun W x0 x1 x2 x3 h => ⟨four_other hqb (h.wrote.old e0) _ _ _ _, four_other hqb (h.wrote.old e1) _ _ _ _, four_other hqb (h.wrote.old e2) _ _ _ _, four_other hqb (h.wrote.old e3) _ _ _ _⟩
                have hbox : ∀ W, Since wr W → W.heap[q]? = some (.cells #[.int .i64 0, .int .i64 0, .int .i64 0, .int .i64 0] 27 (0, 0)) := fun W h => (h.wrote.block q (blk_lt hqx) id).trans hqx
                have hfin : ∀ W, Since wr W → Wrote Nil w ((((W.setCell ⟨q, 0, none⟩ (.int .i64 kk)).setCell ⟨q, 1, none⟩ (.int .i64 t)).setCell ⟨q, 2, none⟩ (.int .i64 n)).setCell ⟨q, 3, none⟩ (.int .i64 0)) := fun W h => four_wrote (hWq.nil h.wrote) (Nat.le_of_eq HW.out.1.symm) _ _ _ _
                have c6 : ∀ W, Calls Tryd.prog 10 #[.agg #[.int .i64 kk, .int .i64 t, .int .i64 n, .int .i64 0]] W fun e w' => e = .returned (.bool (mayE ⟨kk, t, n, false⟩)) ∧ Wrote Nil W w' := fun W => by
                  have := rf_may W kk t n false
                  rw [hld] at this
                  exact this
                have hans := HA.out.1
                obtain ⟨mb, hmb⟩ : ∃ mb, mb = mayE ⟨kk, t, n, false⟩ := ⟨_, rfl⟩
                rw [← hmb] at c6 hans
                have H1 := Lib.hid (And.intro hS1 hS2)
                have HB := Lib.hid (And.intro hbox (And.intro hfin (And.intro hans c6)))
                clear hS1 hS2 hbox hfin hans c6 hkk hqb hb9 hbk hWx hqx hWq c0x hmb
                go_wp2
                refine wp_region_noPanic ?_
                refine wp_region_held_drew (S := fun W => W.cell? ⟨b, 0, none⟩ = some (.int .i64 kk) ∧ W.cell? ⟨b, 1, none⟩ = some (.int .i64 t) ∧ W.cell? ⟨b, 2, none⟩ = some (.int .i64 n) ∧ W.cell? ⟨b, 3, none⟩ = some (.int .i64 0)) (by kernel_rfl) (H1.out.1 _ ⟨(Wrote.refl Nil wr).drew⟩) (fun hHeld => ?_)
                refine wpAnyH_take (i := 0) (v := ?v501) rfl (by kernel_rfl) (by kernel_rfl) (by kernel_rfl) (fun _ _ _ h => h) (Or.inl ⟨by rfl, ?hy501⟩) (by assumption) ?rest501
                case hy501 => intro w hSw; (try dsimp only at hSw); go_simp; try with_reducible rfl
                (try simp only [Act.put, List.getElem_toArray, List.getElem_cons_zero, List.setIfInBounds_toArray, List.set_cons_zero, List.set_cons_succ])
                refine wpAnyH_take (i := 1) (v := ?v502) rfl (by kernel_rfl) (by kernel_rfl) (by kernel_rfl) (fun _ _ _ h => h) (Or.inl ⟨by rfl, ?hy502⟩) (by assumption) ?rest502
                case hy502 => intro w hSw; (try dsimp only at hSw); go_simp; try with_reducible rfl
                (try simp only [Act.put, List.getElem_toArray, List.getElem_cons_succ, List.getElem_cons_zero, List.setIfInBounds_toArray, List.set_cons_zero, List.set_cons_succ])
                refine wpAnyH_ready (rs := [2]) (by kernel_rfl) (by simp) ?_
                refine AllReadyH.cons rfl (fun K hK => ?_) AllReadyH.nil
                go_simp
                go_at_call 10
                with_reducible refine (HB.out.2.2.2 _).mono ?_
                rintro e w6 ⟨rfl, hB1⟩
                have hB : Since wr w6 := ⟨((Wrote.refl Nil wr).drew).nil hB1⟩
                have bb := HB.out.1 _ hB
                have k0 := blk_cell bb 0
                have f0 := blk_frozen bb 0
                have k1 := blk_cell bb 1
                have f1 := blk_frozen bb 1
                have k2 := blk_cell bb 2
                have f2 := blk_frozen bb 2
                have k3 := blk_cell bb 3
                have f3 := blk_frozen bb 3
                go_wp2
                refine hK.out _ _ (H1.out.1 _ hB) (fun hHeld2 => ?_)
                clear hHeld K hK
                have hHeld := hHeld2
                clear hHeld2
                (try simp only [Act.put, List.getElem_toArray, List.getElem_cons_succ, List.getElem_cons_zero, List.setIfInBounds_toArray, List.set_cons_zero, List.set_cons_succ])
                refine wpAnyH_ready (rs := [3]) (by kernel_rfl) (by simp) ?_
                refine AllReadyH.cons rfl (fun K hK => ?_) AllReadyH.nil
                go_simp
                refine hK.out _ _ (H1.out.2 _ _ _ _ _ hB) (fun hHeld2 => ?_)
                clear hHeld K hK
                have hHeld := hHeld2
                clear hHeld2
                (try simp only [Act.put, List.getElem_toArray, List.getElem_cons_succ, List.getElem_cons_zero, List.setIfInBounds_toArray, List.set_cons_zero, List.set_cons_succ])
                refine wpAnyH_take (i := 4) (v := ?v503) rfl (by kernel_rfl) (by kernel_rfl) (by kernel_rfl) (fun _ _ _ h => h) (Or.inl ⟨by rfl, ?hy503⟩) (by assumption) ?rest503
                case hy503 => intro w hSw; (try dsimp only at hSw); go_simp; try with_reducible rfl
                (try simp only [Act.put, List.getElem_toArray, List.getElem_cons_succ, List.getElem_cons_zero, List.setIfInBounds_toArray, List.set_cons_zero, List.set_cons_succ])
                refine wpAnyH_done (by kernel_rfl) ?_ _
                refine NoPanic.normal ?_
                go_wp2
                have hb4 := four_set bb (.int .i64 kk) (.int .i64 t) (.int .i64 n) (.int .i64 0)
                refine bodyPost_ret (v := .tuple #[.agg #[.int .i64 kk, .int .i64 t, .int .i64 n, .int .i64 0], .bool mb]) ?_ rfl ?_
                · have e0 := blk_cell hb4 0
                  have e1 := blk_cell hb4 1
                  have e2 := blk_cell hb4 2
                  have e3 := blk_cell hb4 3
                  simp [results, Tryd.f15, go_sem, e0, e1, e2, e3]
                · have hans := HB.out.2.2.1
                  refine ⟨⟨kk, t, n, false⟩, ?_, fun y hy => ?_, HB.out.2.1 _ hB⟩
                  · rw [hans, show ldI false = 0 from rfl]
                    cases mb <;> rfl
                  · rw [hans] at hy
                    cases mb
                    · cases hy
                    · cases hy
                      rfl
        · obtain rfl : bv = true := by have := HA.out.2.2.2.2.1; simpa using this
          have hld : ldI true = 1 := rfl
          have c3 := hlead rfl
          clear hlead
          go_wp2
          go_cut [7] from 9 (fun pv w' => ∃ b, pv = .pointer (some ⟨b, 0, none⟩) ∧ Done wr 27 #[.int .i64 0, .int .i64 t, .int .i64 n, .int .i64 1] w' b)
          case first =>
            clear HA HP HG HW
            go_region_held3 (fun W => W.cell? ⟨g, 1, none⟩ = some (.string s1) ∧ W.cell? ⟨g, 2, none⟩ = some (.string s2)) (first | with_reducible exact HS.out _ ⟨((Wrote.refl Nil wr).alloc _).drew⟩ | with_reducible exact HS.out _ ⟨((Wrote.refl Nil wr).drew).alloc _⟩ | with_reducible exact HS.out _ ⟨(Wrote.refl Nil wr).drew⟩)
              (first | (go_at_call 30; (with_reducible refine (HNn.out.1 _).mono ?_); rintro e w3 ⟨rfl, rfl⟩) | (go_at_call 30; (with_reducible refine (HNn.out.2 _).mono ?_); rintro e w3 ⟨rfl, rfl⟩))
            all_goals
              go_wp2
              go_meet
              first
                | exact ⟨_, rfl, ⟨((Wrote.refl Nil wr).alloc _).drew, Go.Deep.blk_alloc_new wr _, Nat.le_refl _⟩⟩
                | exact ⟨_, rfl, ⟨((Wrote.refl Nil wr).drew).alloc _, Go.Deep.blk_alloc_new wr.drew _, Nat.le_refl _⟩⟩
          case rest =>
            obtain ⟨b, rfl, HR⟩ := hcut
            generalize wc = Z at HR ⊢
            have hgb : g ≠ b := by have := HA.out.2.2.2.1; have := HR.new; omega
            have hqb : b ≠ q := by have := blk_lt HA.out.2.2.1; have := HR.new; omega
            have hblk := And.intro HR.blk (Nat.le_trans HA.out.2.1.size HR.new)
            have c0Z : Z.cell? ⟨g, 0, none⟩ = some (.string (strB p0)) := HR.wrote.old HA.out.2.2.2.2.2
            have hqZ := (HR.wrote.block q (blk_lt HA.out.2.2.1) id).trans HA.out.2.2.1
            have hWZ := HA.out.2.1.nil HR.wrote
            have HZ := Lib.hid (And.intro hgb (And.intro hqb (And.intro c0Z (And.intro hqZ (And.intro hWZ hblk)))))
            clear hgb hqb hblk c0Z hqZ hWZ HR HS HNn c1 c2
            go_wp2
            go_loopw [8] (fun kv wx => ∃ k : Nat, 1 ≤ k ∧ k ≤ 9 ∧ kv = .int .i64 k ∧ Hid (wx.heap[b]? = some (.cells #[.int .i64 (kd p0 k), .int .i64 t, .int .i64 n, .int .i64 1] 27 (0, 0))) ∧ Wrote (One b) Z wx) (fun kv _ => 9 - (intOf kv).toNat)
            case atStart => exact ⟨1, Nat.le_refl _, by omega, rfl, Lib.hid (by rw [kd_one]; exact HZ.out.2.2.2.2.2.1), Wrote.refl _ _⟩
            case round =>
              obtain ⟨k, hk1, hk9, rfl, hbk, hWx⟩ := hrel
              have c0x : wr.cell? ⟨g, 0, none⟩ = some (.string (strB p0)) := hWx.cell HZ.out.2.2.1 HZ.out.1
              by_cases hlt : k < 9
              · have hltI : (k : Int) < 9 := by omega
                have k0I : (0 : Int) ≤ k := by omega
                have hw := words_at k hlt
                have cW := fun W => rf_words W
                have hSx : ∀ W, Since wr W → W.cell? ⟨g, 0, none⟩ = some (.string (strB p0)) := fun W h => h.wrote.old c0x
                have hbx : ∀ W, Since wr W → W.heap[b]? = some (.cells #[.int .i64 (kd p0 k), .int .i64 t, .int .i64 n, .int .i64 1] 27 (0, 0)) ∧ Wrote (One b) Z W := fun W h => ⟨(h.wrote.block b (blk_lt hbk.out) id).trans hbk.out, hWx.trans h.wrote (fun _ _ x => x.elim)⟩
                by_cases he : wordL k = p0
                · have hkd := kd_hit he hk1 hlt
                  rw [he] at hw
                  have HX := Lib.hid (And.intro hSx (And.intro hbx (And.intro hkd cW)))
                  clear hSx hbx hkd cW he hbk hWx
                  generalize strB p0 = s0 at c0x hw HX
                  generalize wordsV = wv at hw HX
                  go_wp2
                  go_region_held3 (fun W => W.cell? ⟨g, 0, none⟩ = some (.string s0)) (first | with_reducible exact HX.out.1 _ hA | with_reducible exact HX.out.1 _ ⟨(Wrote.refl Nil wr).drew⟩)
                    (first | (go_at_call 22; (with_reducible refine (HX.out.2.2.2 _).mono ?_); rintro e w3 ⟨rfl, hA1⟩; have hA : Since wr w3 := ⟨((Wrote.refl Nil wr).drew).nil hA1⟩; have bb := (HX.out.2.1 _ hA).1; have kk0 := blk_cell bb 0; have ff0 := blk_frozen bb 0))
                  all_goals
                    go_wp2
                    have hb2 := blk_setCell bb 0 (.int .i64 k)
                    have hW2 : Wrote (One b) Z (w3.setCell ⟨b, 0, none⟩ (.int .i64 k)) := (HX.out.2.1 _ hA).2.setCell ⟨b, 0, none⟩ _ (fun _ => rfl)
                    exact ⟨⟨k + 1, by omega, by omega, by simp, Lib.hid (by rw [HX.out.2.2.1]; simpa using hb2), hW2⟩, by simp [intOf]; omega⟩
                · have hkd := kd_miss he hk1 hlt
                  have hne : ((strB (wordL k)).toList == (strB p0).toList) = false := by rw [strB_list, strB_list]; simpa using he
                  have HX := Lib.hid (And.intro hSx (And.intro hbx (And.intro hkd cW)))
                  clear hSx hbx hkd cW he hbk hWx
                  generalize strB (wordL k) = sk at hw hne
                  generalize strB p0 = s0 at c0x hne HX
                  generalize wordsV = wv at hw HX
                  go_wp2
                  go_region_held3 (fun W => W.cell? ⟨g, 0, none⟩ = some (.string s0)) (first | with_reducible exact HX.out.1 _ hA | with_reducible exact HX.out.1 _ ⟨(Wrote.refl Nil wr).drew⟩)
                    (first | (go_at_call 22; (with_reducible refine (HX.out.2.2.2 _).mono ?_); rintro e w3 ⟨rfl, hA1⟩; have hA : Since wr w3 := ⟨((Wrote.refl Nil wr).drew).nil hA1⟩))
                  all_goals
                    go_wp2
                    exact ⟨⟨k + 1, by omega, by omega, by simp, Lib.hid (by rw [HX.out.2.2.1]; exact (HX.out.2.1 _ hA).1), (HX.out.2.1 _ hA).2⟩, by simp [intOf]; omega⟩
              · obtain rfl : k = 9 := by omega
                have hb9 := hbk.out
                rw [kd_nine] at hb9
                have hqx : wr.heap[q]? = some (.cells #[.int .i64 0, .int .i64 0, .int .i64 0, .int .i64 0] 27 (0, 0)) := (hWx.block q (blk_lt HZ.out.2.2.2.1) (fun e => HZ.out.2.1 e.symm)).trans HZ.out.2.2.2.1
                have hWq : Wrote Nil w wr := HZ.out.2.2.2.2.1.one hWx HZ.out.2.2.2.2.2.2
                generalize hkk : kindL p0 = kk at hb9 HA
                have hqb := HZ.out.2.1
                have e0 : wr.cell? ⟨b, 0, none⟩ = some (.int .i64 kk) := blk_cell hb9 0
                have e1 : wr.cell? ⟨b, 1, none⟩ = some (.int .i64 t) := blk_cell hb9 1
                have e2 : wr.cell? ⟨b, 2, none⟩ = some (.int .i64 n) := blk_cell hb9 2
                have e3 : wr.cell? ⟨b, 3, none⟩ = some (.int .i64 1) := blk_cell hb9 3
                have hS1 : ∀ W, Since wr W → (W.cell? ⟨b, 0, none⟩ = some (.int .i64 kk) ∧ W.cell? ⟨b, 1, none⟩ = some (.int .i64 t) ∧ W.cell? ⟨b, 2, none⟩ = some (.int .i64 n) ∧ W.cell? ⟨b, 3, none⟩ = some (.int .i64 1)) := fun W h => ⟨h.wrote.old e0, h.wrote.old e1, h.wrote.old e2, h.wrote.old e3⟩
                have hS2 : ∀ W x0 x1 x2 x3, Since wr W → (((((W.setCell ⟨q, 0, none⟩ x0).setCell ⟨q, 1, none⟩ x1).setCell ⟨q, 2, none⟩ x2).setCell ⟨q, 3, none⟩ x3).cell? ⟨b, 0, none⟩ = some (.int .i64 kk) ∧ ((((W.setCell ⟨q, 0, none⟩ x0).setCell ⟨q, 1, none⟩ x1).setCell ⟨q, 2, none⟩ x2).setCell ⟨q, 3, none⟩ x3).cell? ⟨b, 1, none⟩ = some (.int .i64 t) ∧ ((((W.setCell ⟨q, 0, none⟩ x0).setCell ⟨q, 1, none⟩ x1).setCell ⟨q, 2, none⟩ x2).setCell ⟨q, 3, none⟩ x3).cell? ⟨b, 2, none⟩ = some (.int .i64 n) ∧ ((((W.setCell ⟨q, 0, none⟩ x0).setCell ⟨q, 1, none⟩ x1).setCell ⟨q, 2, none⟩ x2).setCell ⟨q, 3, none⟩ x3).cell? ⟨b, 3, none⟩ = some (.int .i64 1)) := fun W x0 x1 x2 x3 h => ⟨four_other hqb (h.wrote.old e0) _ _ _ _, four_other hqb (h.wrote.old e1) _ _ _ _, four_other hqb (h.wrote.old e2) _ _ _ _, four_other hqb (h.wrote.old e3) _ _ _ _⟩
                have hbox : ∀ W, Since wr W → W.heap[q]? = some (.cells #[.int .i64 0, .int .i64 0, .int .i64 0, .int .i64 0] 27 (0, 0)) := fun W h => (h.wrote.block q (blk_lt hqx) id).trans hqx
                have hfin : ∀ W, Since wr W → Wrote Nil w ((((W.setCell ⟨q, 0, none⟩ (.int .i64 kk)).setCell ⟨q, 1, none⟩ (.int .i64 t)).setCell ⟨q, 2, none⟩ (.int .i64 n)).setCell ⟨q, 3, none⟩ (.int .i64 1)) := fun W h => four_wrote (hWq.nil h.wrote) (Nat.le_of_eq HW.out.1.symm) _ _ _ _
                have c6 : ∀ W, Calls Tryd.prog 10 #[.agg #[.int .i64 kk, .int .i64 t, .int .i64 n, .int .i64 1]] W fun e w' => e = .returned (.bool (mayE ⟨kk, t, n, true⟩)) ∧ Wrote Nil W w' := fun W => by
                  have := rf_may W kk t n true
                  rw [hld] at this
                  exact this
                have hans := HA.out.1
                obtain ⟨mb, hmb⟩ : ∃ mb, mb = mayE ⟨kk, t, n, true⟩ := ⟨_, rfl⟩
                rw [← hmb] at c6 hans
                have H1 := Lib.hid (And.intro hS1 hS2)
                have HB := Lib.hid (And.intro hbox (And.intro hfin (And.intro hans c6)))
                clear hS1 hS2 hbox hfin hans c6 hkk hqb hb9 hbk hWx hqx hWq c0x hmb
                go_wp2
                refine wp_region_noPanic ?_
                refine wp_region_held_drew (S := fun W => W.cell? ⟨b, 0, none⟩ = some (.int .i64 kk) ∧ W.cell? ⟨b, 1, none⟩ = some (.int .i64 t) ∧ W.cell? ⟨b, 2, none⟩ = some (.int .i64 n) ∧ W.cell? ⟨b, 3, none⟩ = some (.int .i64 1)) (by kernel_rfl) (H1.out.1 _ ⟨(Wrote.refl Nil wr).drew⟩) (fun hHeld => ?_)
                refine wpAnyH_take (i := 0) (v := ?v504) rfl (by kernel_rfl) (by kernel_rfl) (by kernel_rfl) (fun _ _ _ h => h) (Or.inl ⟨by rfl, ?hy504⟩) (by assumption) ?rest504
                case hy504 => intro w hSw; (try dsimp only at hSw); go_simp; try with_reducible rfl
                (try simp only [Act.put, List.getElem_toArray, List.getElem_cons_zero, List.setIfInBounds_toArray, List.set_cons_zero, List.set_cons_succ])
                refine wpAnyH_take (i := 1) (v := ?v505) rfl (by kernel_rfl) (by kernel_rfl) (by kernel_rfl) (fun _ _ _ h => h) (Or.inl ⟨by rfl, ?hy505⟩) (by assumption) ?rest505
                case hy505 => intro w hSw; (try dsimp only at hSw); go_simp; try with_reducible rfl
                (try simp only [Act.put, List.getElem_toArray, List.getElem_cons_succ, List.getElem_cons_zero, List.setIfInBounds_toArray, List.set_cons_zero, List.set_cons_succ])
                refine wpAnyH_ready (rs := [2]) (by kernel_rfl) (by simp) ?_
                refine AllReadyH.cons rfl (fun K hK => ?_) AllReadyH.nil
                go_simp
                go_at_call 10
                with_reducible refine (HB.out.2.2.2 _).mono ?_
                rintro e w6 ⟨rfl, hB1⟩
                have hB : Since wr w6 := ⟨((Wrote.refl Nil wr).drew).nil hB1⟩
                have bb := HB.out.1 _ hB
                have k0 := blk_cell bb 0
                have f0 := blk_frozen bb 0
                have k1 := blk_cell bb 1
                have f1 := blk_frozen bb 1
                have k2 := blk_cell bb 2
                have f2 := blk_frozen bb 2
                have k3 := blk_cell bb 3
                have f3 := blk_frozen bb 3
                go_wp2
                refine hK.out _ _ (H1.out.1 _ hB) (fun hHeld2 => ?_)
                clear hHeld K hK
                have hHeld := hHeld2
                clear hHeld2
                (try simp only [Act.put, List.getElem_toArray, List.getElem_cons_succ, List.getElem_cons_zero, List.setIfInBounds_toArray, List.set_cons_zero, List.set_cons_succ])
                refine wpAnyH_ready (rs := [3]) (by kernel_rfl) (by simp) ?_
                refine AllReadyH.cons rfl (fun K hK => ?_) AllReadyH.nil
                go_simp
                refine hK.out _ _ (H1.out.2 _ _ _ _ _ hB) (fun hHeld2 => ?_)
                clear hHeld K hK
                have hHeld := hHeld2
                clear hHeld2
                (try simp only [Act.put, List.getElem_toArray, List.getElem_cons_succ, List.getElem_cons_zero, List.setIfInBounds_toArray, List.set_cons_zero, List.set_cons_succ])
                refine wpAnyH_take (i := 4) (v := ?v506) rfl (by kernel_rfl) (by kernel_rfl) (by kernel_rfl) (fun _ _ _ h => h) (Or.inl ⟨by rfl, ?hy506⟩) (by assumption) ?rest506
                case hy506 => intro w hSw; (try dsimp only at hSw); go_simp; try with_reducible rfl
                (try simp only [Act.put, List.getElem_toArray, List.getElem_cons_succ, List.getElem_cons_zero, List.setIfInBounds_toArray, List.set_cons_zero, List.set_cons_succ])
                refine wpAnyH_done (by kernel_rfl) ?_ _
                refine NoPanic.normal ?_
                go_wp2
                have hb4 := four_set bb (.int .i64 kk) (.int .i64 t) (.int .i64 n) (.int .i64 1)
                refine bodyPost_ret (v := .tuple #[.agg #[.int .i64 kk, .int .i64 t, .int .i64 n, .int .i64 1], .bool mb]) ?_ rfl ?_
                · have e0 := blk_cell hb4 0
                  have e1 := blk_cell hb4 1
                  have e2 := blk_cell hb4 2
                  have e3 := blk_cell hb4 3
                  simp [results, Tryd.f15, go_sem, e0, e1, e2, e3]
                · have hans := HB.out.2.2.1
                  refine ⟨⟨kk, t, n, true⟩, ?_, fun y hy => ?_, HB.out.2.1 _ hB⟩
                  · rw [hans, show ldI true = 1 from rfl]
                    cases mb <;> rfl
                  · rw [hans] at hy
                    cases mb
                    · cases hy
                    · cases hy
                      rfl
end Go.Proofs.YtihlokhejopphaaDoor
