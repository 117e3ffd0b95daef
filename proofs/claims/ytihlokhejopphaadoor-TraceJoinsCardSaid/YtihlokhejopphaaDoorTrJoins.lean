/- The law TraceJoins, as a contract. -/
import Derived.Test.YtihlokhejopphaaDoorTrPars
import Derived.Test.YtihlokhejopphaaDoorTrSame
namespace Go.Proofs.YtihlokhejopphaaDoor
open Go.RowKit Go.BigFrame
set_option linter.unusedVariables false

theorem allM_app (A B : List Ent) : allM (A ++ B) = (allM A && allM B) := by simp [allM]

/-- both rows, one behind the other -/
theorem recs_both {w : World} {base : Nat} {e : TypeId} {v : Value} {n : Nat} {D : List Ent} (h : w.ownsRow base e 4 v n (D.flatMap eC)) : ∃ sa cap, v = .slice sa n cap ∧ RecsAt eC 4 w sa n D := by
  obtain ⟨sa, cap, h1, _, h2, _⟩ := own_recs eC_len h (by decide)
  exact ⟨sa, cap, h1, h2⟩
theorem flat_get : ∀ (D : List Ent) (j : Nat) (u : Value), (D.flatMap eC)[j]? = some u → ∃ k x i, j = k * 4 + i ∧ D[k]? = some x ∧ (eC x)[i]? = some u
  | [], j, u, h => by simp at h
  | x :: r, j, u, h => by
    rw [List.flatMap_cons] at h
    rcases Nat.lt_or_ge j 4 with hj | hj
    · rw [List.getElem?_append_left (by rw [eC_len]; exact hj)] at h
      exact ⟨0, x, j, by omega, rfl, h⟩
    · rw [List.getElem?_append_right (by rw [eC_len]; exact hj), eC_len] at h
      obtain ⟨k, y, i, h1, h2, h3⟩ := flat_get r (j - 4) u h
      exact ⟨k + 1, y, i, by omega, by simpa using h2, h3⟩
theorem flat_many (D : List Ent) : (D.flatMap eC).length = D.length * 4 := flat_len eC_len D
theorem flat_one (D : List Ent) : ∀ u ∈ D.flatMap eC, u.oneCell' = true := by
  intro u hu
  obtain ⟨x, _, hx⟩ := List.mem_flatMap.1 hu
  exact eC_one x u hx
/-- append of a row of entries (or nil) onto a row of the call's own -/
theorem wpList_append_ents {P : Program} {w : World} {ops : Array Oper} {rest : List Oper} {o : Oper} {a : Act} {Q : Exit → Act → World → Prop} (hgd : o.guard = none) (s x : Operand) (t : TypeId)
    (ho : o.op = .call { callee := .builtin .append, args := #[s, x], argTypes := #[t, t] })
    (base : Nat) (e : TypeId) (i : TypeInfo) (z : Value) (bytes : Nat) (ht : P.underlying t = some (.slice e)) (hi : P.info? e = some i) (hz : i.zero = some z)
    (hsize : i.size = 4) (hby : i.bytes = bytes) (hzs : z.cells.size = 4)
    (v : Value) (n : Nat) (ys : List Ent) (hs : a.eval s = v) (hown : w.ownsRow base e 4 v n (ys.flatMap eC))
    (sa : Option Addr) (m c : Nat) (zs : List Ent) (hx : a.eval x = .slice sa m c) (hr : RecsAt eC 4 w sa m zs) (hc : sa = none → c = 0)
    (h63 : n + m ≤ maxLen) (hbytes : (n + m) * bytes ≤ 140737488355328) (hbase : base ≤ w.heap.size)
    (h : ∀ v' w', w'.ownsRow base e 4 v' (n + m) ((ys ++ zs).flatMap eC) → w.grownBy w' v.ownBlock → wpList P ops Q rest (a.put o.dst v') w') : wpList P ops Q (o :: rest) a w := by
  cases sa with
  | none =>
    obtain rfl := hr.empty rfl
    obtain rfl := hc rfl
    obtain rfl : zs = [] := List.eq_nil_of_length_eq_zero hr.len
    refine wpList_append_own_none hgd s x t ho base e i 4 ht hi v n _ hs hown hx ?_
    exact h v w (by simpa using hown) ⟨rfl, rfl, rfl, Nat.le_refl _, fun _ _ _ => rfl⟩
  | some ad =>
    refine wpList_append_own w hgd s x t ho base e i z 4 bytes ht hi hz hsize hby hzs (by omega) v n _ hs hown ad m c (zs.flatMap eC) hx (by rw [flat_many, hr.len]) (fun j u hu => ?_) (flat_one zs) h63 hbytes hbase ?_
    · obtain ⟨k, y, q, rfl, h2, h3⟩ := flat_get zs j u hu
      exact hr.cell ad rfl k y h2 q u h3
    · intro v' w' h1 h2 _
      exact h v' w' (by rw [List.flatMap_append]; exact h1) h2
theorem grown_row {w0 w w' : World} {base : Nat} {e : TypeId} {s n : Nat} {v : Value} {xs : List Value} (h : Wrote Nil w0 w) (hr : w.ownsRow base e s v n xs) (hb : w0.heap.size ≤ base) (hg : w.grownBy w' v.ownBlock) : Wrote Nil w0 w' :=
  h.grown hg fun k e hk => by have := (hr.lt k e).1; omega
theorem base_le {w w' : World} {o : Obj} {row : Option Nat} (h : (w.alloc o).grownBy w' row) : w.heap.size ≤ w'.heap.size := Nat.le_trans (by simp) h.size
theorem own_empty (w : World) (e : TypeId) : (w.alloc (.cells #[] e)).ownsRow w.heap.size e 4 (.slice (some ⟨w.heap.size, 0, none⟩) 0 0) 0 (([] : List Ent).flatMap eC) :=
  ⟨rfl, .inr ⟨_, 0, #[], rfl, Nat.le_refl _, Go.Deep.blk_alloc_new _ _, Nat.le_refl _, Nat.zero_le _, rfl, rfl⟩⟩

set_option maxRecDepth 100000 in
set_option maxHeartbeats 4000000 in
theorem law_joins {w : World} {sa sb : Option Addr} {n m cap cab : Nat} {A B : List Ent} (hG : Glob2 w) (hA : RecsAt eC 4 w sa n A) (hB : RecsAt eC 4 w sb m B) (hca : sa = none → cap = 0) (hcb : sb = none → cab = 0) :
    Calls Tryd.prog 7 #[.slice sa n cap, .slice sb m cab] w fun e w' => e = .returned (.bool true) ∧ Wrote Nil w w' := by
  have hla := hA.len
  have hlb := hB.len
  have ca : ∀ W, Wrote Nil w W → Calls Tryd.prog 8 #[] W fun e w' => e = .returned (.bool true) ∧ Wrote Nil W w' := fun W h => awake_any (hG.after h).one
  by_cases hn : 50 < n
  · have hn' : (50 : Int) < n := by omega
    have c1 := ca w (Wrote.refl _ _)
    clear ca
    go_enter Tryd.func7, Tryd.ntmps7
    go_wp2_with (go_at_call 8; (with_reducible refine c1.mono ?_); rintro e w1 ⟨rfl, hW1⟩)
    go_ret
    exact ⟨rfl, hW1⟩
  by_cases hm : 50 < m
  · have hm' : (50 : Int) < m := by omega
    have hn' : decide ((50 : Int) < n) = false := by simp; omega
    have c1 := ca w (Wrote.refl _ _)
    clear ca hn
    go_enter Tryd.func7, Tryd.ntmps7
    go_wp2_with (go_at_call 8; (with_reducible refine c1.mono ?_); rintro e w1 ⟨rfl, hW1⟩)
    go_ret
    exact ⟨rfl, hW1⟩
  have hn' : decide ((50 : Int) < n) = false := by simp; omega
  have hm' : decide ((50 : Int) < m) = false := by simp; omega
  have hn : n ≤ 50 := by omega
  have hm : m ≤ 50 := by omega
  obtain ⟨i0, hi, hz0, hz1, hz2⟩ := info_parts3 info_en
  have c1 : ∀ W, Wrote Nil w W → Calls Tryd.prog 12 #[.slice sa n cap] W (TextPost W A) := fun W k => tr_text (hG.after k).one (hA.after k) (by omega)
  have c2 : ∀ W, Wrote Nil w W → Calls Tryd.prog 12 #[.slice sb m cab] W (TextPost W B) := fun W k => tr_text (hG.after k).one (hB.after k) (by omega)
  have c3 : ∀ W s c, Wrote Nil w W → RecsAt eC 4 W s (n + m) (A ++ B) → Calls Tryd.prog 12 #[.slice s (n + m) c] W (TextPost W (A ++ B)) := fun W s c k h => tr_text (hG.after k).one h (by omega)
  unfold TextPost at c1 c2 c3
  have HN := Lib.hid (And.intro hca hcb)
  clear hca hcb
  have H := Lib.hid (And.intro hG (And.intro hA (And.intro hB (And.intro ca (And.intro c1 (And.intro c2 c3))))))
  clear hG hA hB ca c1 c2 c3
  have hcase : (allM A = true ∧ allM B = true) ∨ (allM A = false ∨ allM B = false) := by cases allM A <;> cases allM B <;> simp
  rcases hcase with ⟨hAt, hBt⟩ | hF
  · have s1 : txtS A = strB (textOf A) := by rw [txtS, hAt]; rfl
    have s2 : txtS B = strB (textOf B) := by rw [txtS, hBt]; rfl
    have hABt : allM (A ++ B) = true := by rw [allM_app, hAt, hBt]; rfl
    have s3 : txtS (A ++ B) = strB (textOf A ++ textOf B) := by rw [txtS, hABt, ← textOf_append]; rfl
    have z1 : txtE A = 0 := by rw [txtE, hAt]; rfl
    have z2 : txtE B = 0 := by rw [txtE, hBt]; rfl
    have z3 : txtE (A ++ B) = 0 := by rw [txtE, hABt]; rfl
    have c1 := H.out.2.2.2.2.1
    have c2 := H.out.2.2.2.2.2.1
    have c3 := H.out.2.2.2.2.2.2
    rw [s1, z1] at c1
    rw [s2, z2] at c2
    rw [s3, z3] at c3
    have fA := text_few ((allM_iff _).1 hAt)
    have fB := text_few ((allM_iff _).1 hBt)
    have a1 := add_str (a := textOf A) (b := textOf B) (by omega)
    have hpt := parse_text ((allM_iff _).1 hABt)
    rw [textOf_append] at hpt
    obtain ⟨nm, hnm⟩ : ∃ nm, nm = n + m := ⟨_, rfl⟩
    have hgE : gotE (textOf A ++ textOf B) = A ++ B := by unfold gotE; rw [hpt]; rfl
    have hlab : (A ++ B).length = nm := by rw [List.length_append, hla, hlb, hnm]
    have c4 : ∀ W, Wrote Nil w W → Calls Tryd.prog 13 #[.string (strB (textOf A ++ textOf B))] W fun e w' => ∃ sm cm, e = .returned (.tuple #[.slice sm nm cm, .int .i64 (nm : Nat), .int .i64 0]) ∧ Wrote Nil W w' := fun W h => by
      have hp := tr_parse (H.out.1.after h) (textOf A ++ textOf B) (by rw [List.length_append]; omega)
      unfold ParsePost at hp
      rw [hgE, hpt] at hp
      simp only [hlab] at hp
      exact hp.mono fun e w' ⟨sm, cm, h1, _, h2, h3⟩ => ⟨sm, cm, by rw [h1]; rfl, h3⟩
    have hnmI : (n : Int) + (m : Int) = (nm : Int) := by omega
    have hnm100 : nm ≤ 100 := by omega
    have HC := Lib.hid (And.intro c1 (And.intro c2 (And.intro c3 (And.intro c4 hnm))))
    clear c1 c2 c3 c4 s1 s2 s3 z1 z2 z3 fA fB hpt hgE hlab hAt hBt hABt hnm
    generalize strB (textOf A) = sA at HC a1
    generalize strB (textOf B) = sB at HC a1
    generalize strB (textOf A ++ textOf B) = sC at HC a1
    go_enter Tryd.func7, Tryd.ntmps7
    go_wp2_with (first
      | (go_at_call 12; (with_reducible refine (HC.out.1 _ (Wrote.refl _ _)).mono ?_); rintro e w1 ⟨rfl, hW1⟩; have H1 := Lib.hid hW1; clear hW1)
      | (go_at_call 12; (with_reducible refine (HC.out.2.1 _ H1.out).mono ?_); rintro e w2 ⟨rfl, hW2⟩; have H2 := Lib.hid (H1.out.nil hW2); clear hW2)
      | (at_builtin; refine wpList_append_ents rfl _ _ 22 rfl w2.heap.size 41 i0 (.agg #[.int .i64 0, .int .i64 0, .int .i64 0, .bool false]) 32 Tryd.underlying22 hi hz0 hz1 hz2 rfl _ 0 [] rfl (own_empty _ _) sa n cap A rfl (H.out.2.1.after (H2.out.alloc _)) HN.out.1 (by unfold maxLen; omega) (by omega) (by simp) ?_; intro v4 w4 hown4 hg4; have H4 := Lib.hid (And.intro hown4 (And.intro (grown_row (H2.out.alloc _) (own_empty _ _) H2.out.size hg4) (base_le hg4))); clear hown4 hg4)
      | (at_builtin; refine wpList_append_ents rfl _ _ 22 rfl w2.heap.size 41 i0 (.agg #[.int .i64 0, .int .i64 0, .int .i64 0, .bool false]) 32 Tryd.underlying22 hi hz0 hz1 hz2 rfl v4 (0 + n) ([] ++ A) rfl H4.out.1 sb m cab B rfl (H.out.2.2.1.after H4.out.2.1) HN.out.2 (by unfold maxLen; omega) (by omega) H4.out.2.2 ?_; intro v5 w5 hown5 hg5; obtain ⟨s5, c5, rfl, hr5⟩ := recs_both hown5; have H5 := Lib.hid (And.intro hr5 (grown_row H4.out.2.1 H4.out.1 H2.out.size hg5)); clear hown5 hg5 hr5)
      | (go_at_call 12; refine (HC.out.2.2.1 _ s5 c5 H5.out.2 (by simpa using H5.out.1)).mono ?_; rintro e w6 ⟨rfl, hW6⟩; have H6 := Lib.hid (H5.out.2.nil hW6); clear hW6)
      | (go_at_call 13; (with_reducible refine (HC.out.2.2.2.1 _ H6.out).mono ?_); rintro e w7 ⟨sm, cm, rfl, hW7⟩; have H7 := Lib.hid (H6.out.nil hW7); clear hW7)
      | (go_at_call 8; (with_reducible refine (H.out.2.2.2.1 _ H7.out).mono ?_); rintro e w8 ⟨rfl, hW8⟩; have H8 := Lib.hid (H7.out.nil hW8); clear hW8))
    go_ret
    exact ⟨rfl, H8.out⟩
  · have hABf : allM (A ++ B) = false := by rw [allM_app]; rcases hF with h | h <;> rw [h] <;> simp
    have s3 : txtS (A ++ B) = ⟨#[]⟩ := by rw [txtS, hABf]; rfl
    have z3 : txtE (A ++ B) = 4 := by rw [txtE, hABf]; rfl
    have hz : txtE A = 4 ∨ (txtE A = 0 ∧ txtE B = 4) := by
      cases hAt : allM A with
      | false => exact .inl (by rw [txtE, hAt]; rfl)
      | true =>
        rw [hAt] at hF
        have hBf : allM B = false := by rcases hF with h | h; cases h; exact h
        exact .inr ⟨by rw [txtE, hAt]; rfl, by rw [txtE, hBf]; rfl⟩
    have c1 := H.out.2.2.2.2.1
    have c2 := H.out.2.2.2.2.2.1
    have c3 := H.out.2.2.2.2.2.2
    rw [s3, z3] at c3
    obtain ⟨nm, hnm⟩ : ∃ nm, nm = n + m := ⟨_, rfl⟩
    clear s3 z3 hABf hF
    generalize txtS A = sA at c1
    generalize txtS B = sB at c2
    rcases hz with z1 | ⟨z1, z2⟩
    · rw [z1] at c1
      have HC := Lib.hid (And.intro c1 (And.intro c2 c3))
      clear c1 c2 c3 z1
      generalize txtE B = eB at HC
      go_enter Tryd.func7, Tryd.ntmps7
      go_wp2_with (first
        | (go_at_call 12; (with_reducible refine (HC.out.1 _ (Wrote.refl _ _)).mono ?_); rintro e w1 ⟨rfl, hW1⟩; have H1 := Lib.hid hW1; clear hW1)
        | (go_at_call 12; (with_reducible refine (HC.out.2.1 _ H1.out).mono ?_); rintro e w2 ⟨rfl, hW2⟩; have H2 := Lib.hid (H1.out.nil hW2); clear hW2)
        | (at_builtin; refine wpList_append_ents rfl _ _ 22 rfl w2.heap.size 41 i0 (.agg #[.int .i64 0, .int .i64 0, .int .i64 0, .bool false]) 32 Tryd.underlying22 hi hz0 hz1 hz2 rfl _ 0 [] rfl (own_empty _ _) sa n cap A rfl (H.out.2.1.after (H2.out.alloc _)) HN.out.1 (by unfold maxLen; omega) (by omega) (by simp) ?_; intro v4 w4 hown4 hg4; have H4 := Lib.hid (And.intro hown4 (And.intro (grown_row (H2.out.alloc _) (own_empty _ _) H2.out.size hg4) (base_le hg4))); clear hown4 hg4)
        | (at_builtin; refine wpList_append_ents rfl _ _ 22 rfl w2.heap.size 41 i0 (.agg #[.int .i64 0, .int .i64 0, .int .i64 0, .bool false]) 32 Tryd.underlying22 hi hz0 hz1 hz2 rfl v4 (0 + n) ([] ++ A) rfl H4.out.1 sb m cab B rfl (H.out.2.2.1.after H4.out.2.1) HN.out.2 (by unfold maxLen; omega) (by omega) H4.out.2.2 ?_; intro v5 w5 hown5 hg5; obtain ⟨s5, c5, rfl, hr5⟩ := recs_both hown5; have H5 := Lib.hid (And.intro hr5 (grown_row H4.out.2.1 H4.out.1 H2.out.size hg5)); clear hown5 hg5 hr5)
        | (go_at_call 12; refine (HC.out.2.2 _ s5 c5 H5.out.2 (by simpa using H5.out.1)).mono ?_; rintro e w6 ⟨rfl, hW6⟩; have H6 := Lib.hid (H5.out.2.nil hW6); clear hW6)
        | (go_at_call 8; (with_reducible refine (H.out.2.2.2.1 _ H6.out).mono ?_); rintro e w8 ⟨rfl, hW8⟩; have H8 := Lib.hid (H6.out.nil hW8); clear hW8))
      go_ret
      exact ⟨rfl, H8.out⟩
    · rw [z1] at c1
      rw [z2] at c2
      have HC := Lib.hid (And.intro c1 (And.intro c2 c3))
      clear c1 c2 c3 z1 z2
      go_enter Tryd.func7, Tryd.ntmps7
      go_wp2_with (first
        | (go_at_call 12; (with_reducible refine (HC.out.1 _ (Wrote.refl _ _)).mono ?_); rintro e w1 ⟨rfl, hW1⟩; have H1 := Lib.hid hW1; clear hW1)
        | (go_at_call 12; (with_reducible refine (HC.out.2.1 _ H1.out).mono ?_); rintro e w2 ⟨rfl, hW2⟩; have H2 := Lib.hid (H1.out.nil hW2); clear hW2)
        | (at_builtin; refine wpList_append_ents rfl _ _ 22 rfl w2.heap.size 41 i0 (.agg #[.int .i64 0, .int .i64 0, .int .i64 0, .bool false]) 32 Tryd.underlying22 hi hz0 hz1 hz2 rfl _ 0 [] rfl (own_empty _ _) sa n cap A rfl (H.out.2.1.after (H2.out.alloc _)) HN.out.1 (by unfold maxLen; omega) (by omega) (by simp) ?_; intro v4 w4 hown4 hg4; have H4 := Lib.hid (And.intro hown4 (And.intro (grown_row (H2.out.alloc _) (own_empty _ _) H2.out.size hg4) (base_le hg4))); clear hown4 hg4)
        | (at_builtin; refine wpList_append_ents rfl _ _ 22 rfl w2.heap.size 41 i0 (.agg #[.int .i64 0, .int .i64 0, .int .i64 0, .bool false]) 32 Tryd.underlying22 hi hz0 hz1 hz2 rfl v4 (0 + n) ([] ++ A) rfl H4.out.1 sb m cab B rfl (H.out.2.2.1.after H4.out.2.1) HN.out.2 (by unfold maxLen; omega) (by omega) H4.out.2.2 ?_; intro v5 w5 hown5 hg5; obtain ⟨s5, c5, rfl, hr5⟩ := recs_both hown5; have H5 := Lib.hid (And.intro hr5 (grown_row H4.out.2.1 H4.out.1 H2.out.size hg5)); clear hown5 hg5 hr5)
        | (go_at_call 12; refine (HC.out.2.2 _ s5 c5 H5.out.2 (by simpa using H5.out.1)).mono ?_; rintro e w6 ⟨rfl, hW6⟩; have H6 := Lib.hid (H5.out.2.nil hW6); clear hW6)
        | (go_at_call 8; (with_reducible refine (H.out.2.2.2.1 _ H6.out).mono ?_); rintro e w8 ⟨rfl, hW8⟩; have H8 := Lib.hid (H6.out.nil hW8); clear hW8))
      go_ret
      exact ⟨rfl, H8.out⟩
end Go.Proofs.YtihlokhejopphaaDoor
