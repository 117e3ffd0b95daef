/- What is read of a line, by the program and by the reference, and of lines: the mathematics; no program is named. -/
import Derived.Test.YtihlokhejopphaaDoorTrMath
namespace Go.Proofs.YtihlokhejopphaaDoor
open Go.Lib
set_option linter.unusedVariables false

/-! an instance of one byte -/
theorem index_app (a r : List UInt8) (h : (32 : UInt8) ∉ a) : index (a ++ 32 :: r) [32] = a.length := by
  induction a with
  | nil => simp [index, List.isPrefixOf]
  | cons c a ih =>
    have hc : c ≠ 32 := fun e => h (by simp [e])
    have ih := ih fun hm => h (by simp [hm])
    have hp : ([32] : List UInt8).isPrefixOf (c :: (a ++ 32 :: r)) = false := by simp [List.isPrefixOf, Ne.symm hc]
    rw [List.cons_append, index, hp, ih]
    have : ((a.length : Int) == -1) = false := by rw [beq_eq_false_iff_ne]; omega
    simp [this]
theorem index_no (a : List UInt8) (h : (32 : UInt8) ∉ a) : index a [32] = -1 := by
  induction a with
  | nil => simp [index]
  | cons c a ih =>
    have hc : c ≠ 32 := fun e => h (by simp [e])
    have ih := ih fun hm => h (by simp [hm])
    have hp : ([32] : List UInt8).isPrefixOf (c :: a) = false := by simp [List.isPrefixOf, Ne.symm hc]
    rw [index, hp, ih]
    simp
theorem splitK_app (a r : List UInt8) (k : Nat) (h : (32 : UInt8) ∉ a) : splitK [32] 0 (k + 1) (a ++ 32 :: r) = a :: splitK [32] 0 k r := by
  have h1 : ((a.length : Int) == -1) = false := by rw [beq_eq_false_iff_ne]; omega
  rw [splitK, index_app a r h, h1]
  simp
theorem splitK_no (a : List UInt8) (k : Nat) (h : (32 : UInt8) ∉ a) : splitK [32] 0 k a = [a] := by
  cases k with
  | zero => rfl
  | succ k => rw [splitK, index_no a h]; rfl

/-! the parts of a line, as the reference takes them -/
def splitA : List UInt8 → List (List UInt8)
  | [] => [[]]
  | c :: r => if c = 32 then [] :: splitA r else match splitA r with
    | h :: t => (c :: h) :: t
    | [] => [[c]]
def joinA : List (List UInt8) → List UInt8
  | [] => []
  | [a] => a
  | a :: b :: r => a ++ 32 :: joinA (b :: r)
theorem splitA_ne (s : List UInt8) : splitA s ≠ [] := by
  cases s with
  | nil => simp [splitA]
  | cons c r =>
    rw [splitA]
    split
    · simp
    · split <;> simp
theorem splitA_no (a : List UInt8) (h : (32 : UInt8) ∉ a) : splitA a = [a] := by
  induction a with
  | nil => rfl
  | cons c a ih =>
    have hc : c ≠ 32 := fun e => h (by simp [e])
    rw [splitA, if_neg hc, ih fun hm => h (by simp [hm])]
theorem splitA_app (a r : List UInt8) (h : (32 : UInt8) ∉ a) : splitA (a ++ 32 :: r) = a :: splitA r := by
  induction a with
  | nil => simp [splitA]
  | cons c a ih =>
    have hc : c ≠ 32 := fun e => h (by simp [e])
    rw [List.cons_append, splitA, if_neg hc, ih fun hm => h (by simp [hm])]
theorem joinA_splitA (s : List UInt8) : joinA (splitA s) = s := by
  induction s with
  | nil => rfl
  | cons c r ih =>
    rw [splitA]
    cases hs : splitA r with
    | nil => exact absurd hs (splitA_ne r)
    | cons h t =>
      rw [hs] at ih
      split
      · rename_i hc
        rw [joinA, ih, hc]
        rfl
      · cases t with
        | nil => simp only [joinA] at ih ⊢; rw [ih]
        | cons b t => simp only [joinA, List.cons_append] at ih ⊢; rw [ih]

/-! entries read -/
def entP (ps : List (List UInt8)) : Ent := ⟨kindL (ps.getD 0 []), numP (ps.getD 1 []), numP (ps.getD 2 []), decide (ps.length = 4)⟩
/-- the program's parts of a text -/
def partsP (s : List UInt8) : List (List UInt8) := splitN (trimSuffix s [10]) [32] 4
/-- the program's reading of a text -/
def rd (s : List UInt8) : Option Ent := if (partsP s).length < 3 then none else if mayE (entP (partsP s)) = true ∧ lineE (entP (partsP s)) = s then some (entP (partsP s)) else none
def entR (ps : List (List UInt8)) : Ent := ⟨kindL (ps.getD 0 []), numR (ps.getD 1 []), numR (ps.getD 2 []), decide (ps.length = 4)⟩
/-- the reference's reading of a line -/
def rdR (s : List UInt8) : Option Ent := if (splitA s).length < 3 ∨ 4 < (splitA s).length ∨ ((splitA s).length = 4 ∧ (splitA s).getD 3 [] ≠ leadL) then none else if mayE (entR (splitA s)) = true then some (entR (splitA s)) else none

theorem no32_word (k : Nat) : (32 : UInt8) ∉ wordL k := fun h => (word_no k _ h).1 rfl
theorem no32_dec (u : Nat) : (32 : UInt8) ∉ decDigits u := fun h => absurd (dec_dig u _ h) (by decide)
theorem no32_lead : (32 : UInt8) ∉ leadL := by decide
theorem no10_word (k : Nat) : (10 : UInt8) ∉ wordL k := fun h => (word_no k _ h).2 rfl
theorem no10_dec (u : Nat) : (10 : UInt8) ∉ decDigits u := fun h => absurd (dec_dig u _ h) (by decide)
theorem no10_line (e : Ent) : (10 : UInt8) ∉ lineL e := by
  unfold lineL
  simp only [List.mem_append, List.mem_cons, not_or]
  refine ⟨no10_word _, by decide, no10_dec _, by decide, no10_dec _, ?_⟩
  split <;> decide
theorem line_len (e : Ent) : 3 ≤ (lineL e).length := by
  have h1 := List.length_pos_iff.2 (dec_ne e.t.toNat)
  unfold lineL
  simp only [List.length_append, List.length_cons]
  omega
theorem splitA_line (e : Ent) : splitA (lineL e) = wordL e.k.toNat :: decDigits e.t.toNat :: decDigits e.n.toNat :: (if e.ld then [leadL] else []) := by
  unfold lineL
  rw [splitA_app _ _ (no32_word _), splitA_app _ _ (no32_dec _)]
  cases e.ld with
  | true => rw [if_pos rfl, if_pos rfl, splitA_app _ _ (no32_dec _), splitA_no _ no32_lead]
  | false => simp only [Bool.false_eq_true, if_false, List.append_nil]; rw [splitA_no _ (no32_dec _)]
theorem splitK_line (e : Ent) : splitK [32] 0 3 (lineL e) = wordL e.k.toNat :: decDigits e.t.toNat :: decDigits e.n.toNat :: (if e.ld then [leadL] else []) := by
  unfold lineL
  rw [splitK_app _ _ _ (no32_word _), splitK_app _ _ _ (no32_dec _)]
  cases e.ld with
  | true => rw [if_pos rfl, if_pos rfl, splitK_app _ _ _ (no32_dec _), splitK_no _ _ no32_lead]
  | false => simp only [Bool.false_eq_true, if_false, List.append_nil]; rw [splitK_no _ _ (no32_dec _)]
theorem trim_end (a : List UInt8) : trimSuffix (a ++ [10]) [10] = a := by
  have h : hasSuffix (a ++ [10]) [10] = true := by unfold hasSuffix; rw [List.isSuffixOf_iff_suffix]; exact List.suffix_append _ _
  rw [trimSuffix, h]
  simp
theorem parts_line (e : Ent) : partsP (lineE e) = wordL e.k.toNat :: decDigits e.t.toNat :: decDigits e.n.toNat :: (if e.ld then [leadL] else []) := by
  have hl := line_len e
  unfold partsP lineE splitN
  rw [trim_end, show min 4 ((lineL e).length + 1) - 1 = 3 by omega, splitK_line]
theorem ent_parts {e : Ent} (h : mayE e = true) : entP (wordL e.k.toNat :: decDigits e.t.toNat :: decDigits e.n.toNat :: (if e.ld then [leadL] else [])) = e ∧ entR (wordL e.k.toNat :: decDigits e.t.toNat :: decDigits e.n.toNat :: (if e.ld then [leadL] else [])) = e := by
  rw [may_iff] at h
  have hk := kind_word e.k h.1 h.2.1
  have e1 : ((e.t.toNat : Nat) : Int) = e.t := by omega
  have e2 : ((e.n.toNat : Nat) : Int) = e.n := by omega
  have p1 := numP_dec (u := e.t.toNat) (by omega)
  have p2 := numP_dec (u := e.n.toNat) (by omega)
  have r1 := numR_dec (u := e.t.toNat) (by omega)
  have r2 := numR_dec (u := e.n.toNat) (by omega)
  rw [e1] at p1 r1
  rw [e2] at p2 r2
  obtain ⟨k, t, n, ld⟩ := e
  cases ld <;> simp_all [entP, entR]

/-- what is read of an entry's line is the entry -/
theorem rd_line {e : Ent} (h : mayE e = true) : rd (lineE e) = some e := by
  have h1 := ent_parts h
  unfold rd
  rw [parts_line, h1.1, if_neg (by simp), if_pos ⟨h, rfl⟩]
/-- what is read has just that line -/
theorem rd_some {s : List UInt8} {e : Ent} (h : rd s = some e) : mayE e = true ∧ lineE e = s := by
  unfold rd at h
  split at h
  · cases h
  · split at h
    · rename_i h2
      cases h
      exact h2
    · cases h
theorem rdR_line {e : Ent} (h : mayE e = true) : rdR (lineL e) = some e := by
  have h1 := ent_parts h
  unfold rdR
  rw [splitA_line, h1.2, if_neg, if_pos h]
  cases e.ld <;> simp
theorem rdR_some {s : List UInt8} {e : Ent} (h : rdR s = some e) : mayE e = true ∧ lineL e = s := by
  unfold rdR at h
  split at h
  · cases h
  · rename_i hn
    split at h
    · rename_i hm
      cases h
      refine ⟨hm, ?_⟩
      have hj := joinA_splitA s
      generalize splitA s = ps at hn hm hj
      rw [← hj]
      rw [may_iff] at hm
      have hl : ps.length = 3 ∨ (ps.length = 4 ∧ ps.getD 3 [] = leadL) := by
        have a1 : ¬ ps.length < 3 := fun h => hn (.inl h)
        have a2 : ¬ 4 < ps.length := fun h => hn (.inr (.inl h))
        by_cases h4 : ps.length = 4
        · exact .inr ⟨h4, Decidable.byContradiction fun h => hn (.inr (.inr ⟨h4, h⟩))⟩
        · exact .inl (by omega)
      rcases hl with hl | ⟨hl, hd⟩
      · match ps, hl with
        | [p0, p1, p2], _ =>
          simp only [entR, List.getD_cons_zero, List.getD_cons_succ, List.length_cons, List.length_nil] at hm
          have w0 := word_kind p0 (by omega)
          simp only [lineL, entR, List.getD_cons_zero, List.getD_cons_succ, List.length_cons, List.length_nil, joinA]
          rw [w0.1, dec_numR hm.2.2.1, dec_numR hm.2.2.2.2.1]
          simp
      · match ps, hl with
        | [p0, p1, p2, p3], _ =>
          simp only [entR, List.getD_cons_zero, List.getD_cons_succ, List.length_cons, List.length_nil] at hm hd
          have w0 := word_kind p0 (by omega)
          simp only [lineL, entR, List.getD_cons_zero, List.getD_cons_succ, List.length_cons, List.length_nil, joinA]
          rw [w0.1, dec_numR hm.2.2.1, dec_numR hm.2.2.2.2.1, hd]
          simp
    · cases h
/-- both read the same of a line -/
theorem rd_rdR (s : List UInt8) : rd (s ++ [10]) = rdR s := by
  cases hr : rdR s with
  | some e =>
    obtain ⟨h1, h2⟩ := rdR_some hr
    rw [← h2]
    exact rd_line h1
  | none =>
    cases hp : rd (s ++ [10]) with
    | none => rfl
    | some e =>
      obtain ⟨h1, h2⟩ := rd_some hp
      have h3 : lineL e = s := List.append_cancel_right h2
      rw [← h3, rdR_line h1] at hr
      cases hr
/-- a text without an end is no line -/
theorem rd_open {s : List UInt8} (h : (10 : UInt8) ∉ s) : rd s = none := by
  cases hp : rd s with
  | none => rfl
  | some e =>
    obtain ⟨h1, h2⟩ := rd_some hp
    exact absurd (by rw [← h2]; simp [lineE]) h

/-! lines -/
def linesOf : List UInt8 → List (List UInt8)
  | [] => []
  | c :: r => if c = 10 then [10] :: linesOf r else match linesOf r with
    | h :: t => (c :: h) :: t
    | [] => [[c]]
theorem linesOf_app (a r : List UInt8) (h : (10 : UInt8) ∉ a) : linesOf (a ++ 10 :: r) = (a ++ [10]) :: linesOf r := by
  induction a with
  | nil => simp [linesOf]
  | cons c a ih =>
    have hc : c ≠ 10 := fun e => h (by simp [e])
    rw [List.cons_append, linesOf, if_neg hc, ih fun hm => h (by simp [hm])]
    rfl
theorem linesOf_no (a : List UInt8) (h : (10 : UInt8) ∉ a) (hn : a ≠ []) : linesOf a = [a] := by
  induction a with
  | nil => exact absurd rfl hn
  | cons c a ih =>
    have hc : c ≠ 10 := fun e => h (by simp [e])
    rw [linesOf, if_neg hc]
    cases a with
    | nil => rfl
    | cons d a => rw [ih (fun hm => h (by simp [hm])) (by simp)]
theorem linesOf_join (s : List UInt8) : (linesOf s).flatten = s := by
  induction s with
  | nil => rfl
  | cons c r ih =>
    rw [linesOf]
    split
    · rename_i hc
      rw [List.flatten_cons, ih, hc]; rfl
    · cases hl : linesOf r with
      | nil => rw [hl] at ih; simp only [List.flatten_nil] at ih; simp [← ih]
      | cons h t => rw [hl] at ih; simp only [List.flatten_cons] at ih ⊢; rw [List.cons_append, ih]
/-- what is read of lines: the entries up to the first that is none -/
def parseL : List (List UInt8) → List Ent × Bool
  | [] => ([], true)
  | x :: r => match rd x with
    | none => ([], false)
    | some e => (e :: (parseL r).1, (parseL r).2)
theorem parseL_none {x : List UInt8} (r : List (List UInt8)) (h : rd x = none) : parseL (x :: r) = ([], false) := by rw [parseL, h]
theorem parseL_some {x : List UInt8} {e : Ent} (r : List (List UInt8)) (h : rd x = some e) : parseL (x :: r) = (e :: (parseL r).1, (parseL r).2) := by rw [parseL, h]
theorem parseL_all {ls : List (List UInt8)} (h : (parseL ls).2 = true) : (∀ e ∈ (parseL ls).1, mayE e = true) ∧ textOf (parseL ls).1 = ls.flatten := by
  induction ls with
  | nil => exact ⟨by simp [parseL], rfl⟩
  | cons x r ih =>
    cases hr : rd x with
    | none => rw [parseL_none r hr] at h; cases h
    | some e =>
      rw [parseL_some r hr] at h ⊢
      obtain ⟨h1, h2⟩ := ih h
      obtain ⟨h3, h4⟩ := rd_some hr
      refine ⟨fun y hy => ?_, ?_⟩
      · rcases List.mem_cons.1 hy with rfl | hy
        · exact h3
        · exact h1 y hy
      · rw [textOf, List.flatMap_cons, h4, List.flatten_cons, ← h2]; rfl
theorem parse_text {l : List Ent} (h : ∀ e ∈ l, mayE e = true) : parseL (linesOf (textOf l)) = (l, true) := by
  induction l with
  | nil => rfl
  | cons e r ih =>
    have h1 : textOf (e :: r) = lineL e ++ 10 :: textOf r := by simp [textOf, lineE]
    rw [h1, linesOf_app _ _ (no10_line e), show lineL e ++ [10] = lineE e from rfl, parseL_some _ (rd_line (h e (by simp))), ih fun x hx => h x (by simp [hx])]
theorem textOf_append (a b : List Ent) : textOf (a ++ b) = textOf a ++ textOf b := by simp [textOf]
theorem textOf_cons (e : Ent) (l : List Ent) : textOf (e :: l) = lineE e ++ textOf l := by simp [textOf]
theorem line_few {e : Ent} (h : mayE e = true) : (lineE e).length ≤ 60 := by
  rw [may_iff] at h
  have h1 := dec_len (u := e.t.toNat) (k := 13) (by omega) (by omega)
  have h2 := dec_len (u := e.n.toNat) (k := 13) (by omega) (by omega)
  have h3 : (wordL e.k.toNat).length ≤ 8 := by unfold wordL; split <;> decide
  unfold lineE lineL
  simp only [List.length_append, List.length_cons, List.length_nil]
  split
  · rw [List.length_cons, show leadL.length = 4 from rfl]; omega
  · simp only [List.length_nil]; omega
theorem text_few {l : List Ent} (h : ∀ e ∈ l, mayE e = true) : (textOf l).length ≤ 60 * l.length := by
  induction l with
  | nil => simp [textOf]
  | cons e r ih =>
    rw [textOf_cons, List.length_append, List.length_cons]
    have h1 := line_few (h e (by simp))
    have h2 := ih fun x hx => h x (by simp [hx])
    omega
end Go.Proofs.YtihlokhejopphaaDoor
