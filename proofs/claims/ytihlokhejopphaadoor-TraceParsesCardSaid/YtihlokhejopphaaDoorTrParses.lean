/- The law TraceParses, as a contract. -/
import Derived.Test.YtihlokhejopphaaDoorTrPars
import Derived.Test.YtihlokhejopphaaDoorTrSame
import Derived.Test.YtihlokhejopphaaDoorTrRefR
namespace Go.Proofs.YtihlokhejopphaaDoor
open Go.RowKit Go.BigFrame
set_option linter.unusedVariables false

/-- how far the law has come in the text -/
structure ParR (s : List UInt8) (i f : Nat) (E : List Ent) : Prop where
  done : ∃ ls, linesOf s = ls ++ linesOf (s.drop f) ∧ parseL ls = (E, true)
  le : f ≤ i
  no : (10 : UInt8) ∉ (s.drop f).take (i - f)
  few : E.length ≤ i
theorem parR_start (s : List UInt8) : ParR s 0 0 [] := ⟨⟨[], rfl, rfl⟩, Nat.le_refl _, by simp, Nat.le_refl _⟩
theorem parR_line {s : List UInt8} {i f : Nat} {E : List Ent} (h : ParR s i f E) (hc : s[i]? = some 10) : linesOf (s.drop f) = ((s.drop f).take (i - f) ++ [10]) :: linesOf (s.drop (i + 1)) := by
  have h1 := drop_cut h.le hc
  conv => lhs; rw [h1]
  exact linesOf_app _ _ h.no
theorem parR_yes {s : List UInt8} {i f : Nat} {E : List Ent} {x : Ent} (h : ParR s i f E) (hc : s[i]? = some 10) (hx : rdR ((s.drop f).take (i - f)) = some x) : ParR s (i + 1) (i + 1) (E ++ [x]) := by
  obtain ⟨ls, h1, h2⟩ := h.done
  have hl := parR_line h hc
  refine ⟨⟨ls ++ [(s.drop f).take (i - f) ++ [10]], by rw [h1, hl, List.append_assoc]; rfl, parseL_snoc h2 (by rw [rd_rdR]; exact hx)⟩, Nat.le_refl _, by simp, ?_⟩
  rw [List.length_append, List.length_singleton]
  have := h.few
  omega
theorem parR_no {s : List UInt8} {i f : Nat} {E : List Ent} (h : ParR s i f E) (hc : s[i]? = some 10) (hx : rdR ((s.drop f).take (i - f)) = none) : parseL (linesOf s) = (E, false) := by
  obtain ⟨ls, h1, h2⟩ := h.done
  rw [h1, parR_line h hc]
  exact parseL_fail _ h2 (by rw [rd_rdR]; exact hx)
theorem parR_on {s : List UInt8} {i f : Nat} {E : List Ent} {c : UInt8} (h : ParR s i f E) (hc : s[i]? = some c) (h10 : c ≠ 10) : ParR s (i + 1) f E := by
  have hi := (List.getElem?_eq_some_iff.1 hc).1
  have he := (List.getElem?_eq_some_iff.1 hc).2
  have hle := h.le
  refine ⟨h.done, by omega, ?_, by have := h.few; omega⟩
  have ht : (s.drop f).take (i + 1 - f) = (s.drop f).take (i - f) ++ [c] := by
    rw [show i + 1 - f = (i - f) + 1 by omega, List.take_succ_eq_append_getElem (by rw [List.length_drop]; omega)]
    congr 2
    rw [List.getElem_drop]
    simp only [show f + (i - f) = i by omega]
    exact he
  rw [ht]
  intro hm
  rcases List.mem_append.1 hm with hm | hm
  · exact h.no hm
  · exact h10 (List.mem_singleton.1 hm).symm
theorem parR_open {s : List UInt8} {f : Nat} {E : List Ent} (h : ParR s s.length f E) (hf : f < s.length) : parseL (linesOf s) = (E, false) := by
  obtain ⟨ls, h1, h2⟩ := h.done
  have ht : (s.drop f).take (s.length - f) = s.drop f := List.take_of_length_le (by rw [List.length_drop]; exact Nat.le_refl _)
  have hno := h.no
  rw [ht] at hno
  have hne : s.drop f ≠ [] := fun e => by
    have := congrArg List.length e
    rw [List.length_drop, List.length_nil] at this
    omega
  rw [h1, linesOf_no _ hno hne]
  exact parseL_fail [] h2 (rd_open hno)
theorem parR_all {s : List UInt8} {f : Nat} {E : List Ent} (h : ParR s s.length f E) (hf : ¬ f < s.length) : parseL (linesOf s) = (E, true) := by
  obtain ⟨ls, h1, h2⟩ := h.done
  have hd : s.drop f = [] := List.drop_eq_nil_of_le (by omega)
  rw [hd] at h1
  rw [h1, show linesOf [] = [] from rfl, List.append_nil]
  exact h2
theorem rC_flat (E : List Ent) (x : Ent) : (E ++ [x]).flatMap rC = E.flatMap rC ++ rC x := by simp

set_option maxRecDepth 100000 in
set_option maxHeartbeats 4000000 in
theorem law_parses {w : World} (hG : Glob2 w) (s : List UInt8) (hsm : s.length ≤ maxLen) :
    Calls Tryd.prog 4 #[.string (strB s)] w fun e w' => e = .returned (.bool true) ∧ Wrote Nil w w' := by
  have ca : ∀ W, Wrote Nil w W → Calls Tryd.prog 8 #[] W fun e w' => e = .returned (.bool true) ∧ Wrote Nil W w' := fun W h => awake_any (hG.after h).one
  have hsz : (strB s).size = s.length := rfl
  obtain ⟨ln, hln⟩ : ∃ ln, ln = s.length := ⟨_, rfl⟩
  by_cases hbig : 1000 < ln
  · have hbI : (1000 : Int) < ln := by omega
    have c1 := ca w (Wrote.refl _ _)
    rw [← hln] at hsz
    generalize strB s = ss at hsz ⊢
    clear ca hln
    go_enter Tryd.func4, Tryd.ntmps4
    go_wp2_with (go_at_call 8; (with_reducible refine c1.mono ?_); rintro e w1 ⟨rfl, hW1⟩)
    go_ret
    exact ⟨rfl, hW1⟩
  have hbI : decide ((1000 : Int) < ln) = false := by simp; omega
  have hn : ln ≤ 1000 := by omega
  have c1 := tr_parse hG s (by omega)
  unfold ParsePost at c1
  obtain ⟨nd, hnd⟩ : ∃ nd, nd = (gotE s).length := ⟨_, rfl⟩
  obtain ⟨nc, hnc⟩ : ∃ nc, nc = (parseL (linesOf s)).1.length := ⟨_, rfl⟩
  obtain ⟨ev, hev⟩ : ∃ ev : Int, ev = if (parseL (linesOf s)).2 then 0 else 4 := ⟨_, rfl⟩
  rw [← hnd, ← hnc, ← hev] at c1
  have hget : ∀ (k : Nat) (c : UInt8), s[k]? = some c → ∀ (h : k < (strB s).size), ((strB s)[k]'h).toNat = c.toNat := fun k c h hk => get_strB h hk
  have hsub : ∀ (f i : Nat), f ≤ i → i ≤ s.length → ∀ W, (Instr.slice 9 (.string (strB s)) (some (.int .i64 (f : Int))) (some (.int .i64 (i : Int))) none).run Tryd.prog W = .ok (.string (strB ((s.drop f).take (i - f)))) W := fun f i h1 h2 W => by
    rw [run_slice_string W 9 (strB s) .i64 .i64 (f : Int) (i : Int) Tryd.underlying9 (by omega) (by omega) (by rw [strB_size]; omega), Int.toNat_natCast, Int.toNat_natCast, strB_sub]
  have hti : ∀ E, parseL (linesOf s) = (E, true) → strB (textOf E) = strB s := fun E h => by
    have h1 := parseL_all (ls := linesOf s) (by rw [h])
    rw [h, linesOf_join] at h1
    rw [h1.2]
  obtain ⟨i0, hi, hz0, hz1, hz2⟩ := info_parts3 info_rn
  have HG := Lib.hid (And.intro hget (And.intro hsub (And.intro hG (And.intro ca (And.intro hnd (And.intro hnc (And.intro hev (And.intro hln hti))))))))
  rw [← hln] at hsz
  clear hget hsub hG ca hnd hnc hev hln hti hsm
  generalize strB s = ss at hsz HG c1 ⊢
  go_enter Tryd.func4, Tryd.ntmps4
  go_wp2_with (go_at_call 13; (with_reducible refine c1.mono ?_); rintro e w1 ⟨sa, cap, rfl, hcap, hr1, hW1⟩; have HR := Lib.hid (And.intro hr1 hW1); clear hr1 hW1 c1)
  go_loopw [6, 7, 25] (fun dv fv iv wr => ∃ (i f : Nat) (E : List Ent) (dv0 : Value), dv0 = dv ∧ iv = .int .i64 i ∧ fv = .int .i64 f ∧ i ≤ ln ∧ Hid (ParR s i f E) ∧ Grow 27 4 w1 w1.heap.size wr E.length (E.flatMap rC) dv) (fun _ _ iv _ => ln - (intOf iv).toNat)
  case atStart => exact ⟨0, 0, [], _, rfl, rfl, rfl, Nat.zero_le _, Lib.hid (parR_start s), grow_here _ _ _⟩
  case round =>
    obtain ⟨i, f, E, dv, rfl, rfl, rfl, hin, hS, hGr⟩ := hrel
    have hfi : f ≤ i := hS.out.le
    have hEi : E.length ≤ i := hS.out.few
    obtain ⟨so, co, hdv⟩ := hGr.form
    by_cases hlt : i < ln
    · have hltI : (i : Int) < ln := by omega
      have i00 : (0 : Int) ≤ i := by omega
      have f00 : (0 : Int) ≤ f := by omega
      have hfiI : (f : Int) ≤ i := by omega
      obtain ⟨c, hc⟩ : ∃ c, s[i]? = some c := ⟨s[i]'(by rw [← HG.out.2.2.2.2.2.2.2.1]; exact hlt), List.getElem?_eq_getElem _⟩
      have hg3 := HG.out.1 i c hc
      by_cases h10 : c = 10
      · subst h10
        have hg3' : ∀ (h : i < ss.size), (ss[i]'h).toNat = 10 := hg3
        have hsl := HG.out.2.1 f i hfi (by rw [← HG.out.2.2.2.2.2.2.2.1]; omega)
        have c2 := fun W => rf_read W ((s.drop f).take (i - f)) (by rw [List.length_take]; omega)
        unfold RReadPost at c2
        cases hrd : rdR ((s.drop f).take (i - f)) with
        | none =>
          have hpf := parR_no hS.out hc hrd
          have hnd0 : nd = 0 := by rw [HG.out.2.2.2.2.1]; unfold gotE; rw [hpf]; rfl
          have hncE : nc = E.length := by rw [HG.out.2.2.2.2.2.1, hpf]
          have hev4 : ev = 4 := by rw [HG.out.2.2.2.2.2.2.1, hpf]; rfl
          rw [hrd] at c2
          have HS := Lib.hid (And.intro (HR.out.2.nil hGr.wrote) c2)
          clear hpf hS hGr hc hg3 c2 hrd
          subst hdv
          rw [← hncE] at *
          clear hncE
          subst hnd0
          subst hev4
          generalize strB ((s.drop f).take (i - f)) = sp at hsl HS
          go_wp2_with (first
            | (go_at_call 15; (with_reducible refine (HS.out.2 _).mono ?_); rintro e w2 ⟨x, rfl, hx, hW2⟩; have H2 := Lib.hid (HS.out.1.nil (hW2.alloc (.cells #[.int .i64 x.k, .int .i64 x.t, .int .i64 x.n, .int .i64 (ldI x.ld)] 27))); clear hx hW2)
            | (go_at_call 8; (with_reducible refine (HG.out.2.2.2.1 _ H2.out).mono ?_); rintro e w8 ⟨rfl, hW8⟩; have H8 := Lib.hid (H2.out.nil hW8); clear hW8))
          refine bodyPost_ret (results_tmp rfl _ _ _) rfl ?_
          exact ⟨rfl, H8.out⟩
        | some x =>
          have hS2 := parR_yes hS.out hc hrd
          rw [hrd] at c2
          have HS := Lib.hid (And.intro hS2 (And.intro hGr c2))
          clear hS2 hS hGr hc hg3 c2 hrd hdv
          generalize strB ((s.drop f).take (i - f)) = sp at hsl HS
          go_wp2_with (first
            | (go_at_call 15; (with_reducible refine (HS.out.2.2 _).mono ?_); rintro e w2 ⟨x0, rfl, hx, hW2⟩; obtain rfl := hx _ rfl; have hG2 := fun (o1 o2 : Obj) => HS.out.2.1.after ((hW2.alloc o1).alloc o2); have H2 := Lib.hid hG2; clear hx hW2 hG2)
            | (at_builtin; refine wpList_append_own _ rfl _ _ 24 rfl w1.heap.size 27 i0 (.agg #[.int .i64 0, .int .i64 0, .int .i64 0, .int .i64 0]) 4 32 Tryd.underlying24 hi hz0 hz1 hz2 rfl (by decide) dv E.length (E.flatMap rC) rfl (H2.out _ _).own ⟨w2.heap.size + 1, 0, none⟩ 1 1 (rC x0) rfl rfl (news_at _ _ _ _ (by simp)) (rC_one _) (by unfold maxLen; omega) (by omega) (H2.out _ _).size ?_; intro v' w6 hown hgrow hnil; have HG6 := Lib.hid ((H2.out _ _).more hown hgrow); clear hown hgrow hnil))
          go_roundw
          case rel => exact ⟨i + 1, i + 1, E ++ [x0], _, rfl, by simp, by simp, by omega, Lib.hid HS.out.1, by rw [List.length_append, rC_flat]; exact HG6.out⟩
          case measure => simp [intOf]; omega
      · have hS2 := parR_on hS.out hc h10
        have hb10 : (((c.toNat : Nat) : Int) != 10) = true := by
          have : c.toNat ≠ 10 := fun e => h10 (UInt8.toNat_inj.1 (by simpa using e))
          simp
          omega
        generalize c.toNat = b at hg3 hb10
        have HS := Lib.hid (And.intro hS2 hGr)
        clear hS hS2 hGr hc h10 hdv
        go_wp2
        go_roundw
        case rel => exact ⟨i + 1, f, E, _, rfl, by simp, rfl, by omega, Lib.hid HS.out.1, HS.out.2⟩
        case measure => simp [intOf]; omega
    · obtain rfl : i = ln := by omega
      have hlnS := HG.out.2.2.2.2.2.2.2.1
      by_cases hfl : f < i
      · have hflI : (f : Int) < i := by omega
        have hpf := parR_open (by rw [← hlnS]; exact hS.out) (by rw [← hlnS]; exact hfl)
        have hnd0 : nd = 0 := by rw [HG.out.2.2.2.2.1]; unfold gotE; rw [hpf]; rfl
        have hncE : nc = E.length := by rw [HG.out.2.2.2.2.2.1, hpf]
        have hev4 : ev = 4 := by rw [HG.out.2.2.2.2.2.2.1, hpf]; rfl
        have HS := Lib.hid (HR.out.2.nil hGr.wrote)
        clear hpf hS hGr hlnS
        subst hdv
        rw [← hncE] at *
        clear hncE
        subst hnd0
        subst hev4
        go_wp2_with (go_at_call 8; (with_reducible refine (HG.out.2.2.2.1 _ HS.out).mono ?_); rintro e w8 ⟨rfl, hW8⟩; have H8 := Lib.hid (HS.out.nil hW8); clear hW8)
        go_ret
        exact ⟨rfl, H8.out⟩
      · have hflI : decide ((f : Int) < i) = false := by simp; omega
        have hpf := parR_all (by rw [← hlnS]; exact hS.out) (by rw [← hlnS]; exact hfl)
        have hgE : gotE s = E := by unfold gotE; rw [hpf]; rfl
        have hndE : nd = E.length := by rw [HG.out.2.2.2.2.1, hgE]
        have hncE : nc = E.length := by rw [HG.out.2.2.2.2.2.1, hpf]
        have hev0 : ev = 0 := by rw [HG.out.2.2.2.2.2.2.1, hpf]; rfl
        have hall : allM E = true := (allM_iff _).2 (by have := (parseL_all (ls := linesOf s) (by rw [hpf])).1; rw [hpf] at this; exact this)
        have hts : txtS E = ss := by rw [txtS, hall]; exact HG.out.2.2.2.2.2.2.2.2 E hpf
        have hte : txtE E = 0 := by rw [txtE, hall]; rfl
        have hr1 := HR.out.1.after hGr.wrote
        rw [hgE] at hr1
        obtain ⟨so2, co2, hdv2, _, hr2, _⟩ := own_recs rC_len hGr.own (by decide)
        rw [hdv2] at hdv ⊢
        clear hdv
        have hWw := HR.out.2.nil hGr.wrote
        have c3 := tr_text (cap := cap) (HG.out.2.2.1.after hWw).one hr1 (by omega)
        unfold TextPost at c3
        rw [hts, hte] at c3
        have c4 : ∀ W, Wrote Nil wr W → Calls Tryd.prog 14 #[.slice sa nd cap, .slice so2 nd co2] W fun e w' => e = .returned (.bool true) ∧ Wrote Nil W w' := fun W h => by
          have a := hr1.after h
          have b := hr2.after h
          rw [← hndE] at b
          exact same_any a b (by omega)
        have HS := Lib.hid (And.intro hWw (And.intro c3 c4))
        clear hpf hS hGr hlnS hgE hall hts hte hr1 hr2 hWw c3 c4 hdv2
        rw [← hndE] at *
        have hnn : nc = nd := hncE
        subst hnn
        subst hev0
        clear hndE hncE
        go_wp2_with (first
          | (go_at_call 12; (with_reducible refine HS.out.2.1.mono ?_); rintro e w2 ⟨rfl, hW2⟩; have H2 := Lib.hid hW2; clear hW2)
          | (go_at_call 14; (with_reducible refine (HS.out.2.2 _ H2.out).mono ?_); rintro e w3 ⟨rfl, hW3⟩; have H3 := Lib.hid (HS.out.1.nil (H2.out.nil hW3)); clear hW3)
          | (go_at_call 8; (with_reducible refine (HG.out.2.2.2.1 _ H3.out).mono ?_); rintro e w8 ⟨rfl, hW8⟩; have H8 := Lib.hid (H3.out.nil hW8); clear hW8))
        go_ret
        exact ⟨rfl, H8.out⟩
end Go.Proofs.YtihlokhejopphaaDoor
