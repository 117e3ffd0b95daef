/- The contracts of package trace's kindOf, number and read. -/
import Derived.Test.YtihlokhejopphaaDoorTrText
import Derived.Test.YtihlokhejopphaaDoorShelf
import Derived.Shelf.Strconv.ErrVarAll
import Derived.Deep.RegionHeld3
import Derived.Deep.Cut
namespace Go.Proofs.YtihlokhejopphaaDoor
open Go.RowKit
set_option linter.unusedVariables false

/-- what reading needs besides -/
structure Glob2 (w : World) : Prop where
  one : Glob w
  maxLen : ∃ m : Int, w.cell? ⟨1, 0, none⟩ = some (.int .i64 m)
  synt : ∃ tp p, w.var? Tryd.prog "strconv.ErrSyntax" = some #[.iface tp p]
  rng : ∃ tp p, w.var? Tryd.prog "strconv.ErrRange" = some #[.iface tp p]
theorem Glob2.after {w w' : World} (h : Glob2 w) (k : Wrote Nil w w') : Glob2 w' := by
  obtain ⟨m, hm⟩ := h.maxLen
  obtain ⟨t1, p1, h1⟩ := h.synt
  obtain ⟨t2, p2, h2⟩ := h.rng
  exact ⟨h.one.after k, ⟨m, k.old hm⟩, ⟨t1, p1, var_after (S := Nil) k h1⟩, ⟨t2, p2, var_after (S := Nil) k h2⟩⟩

theorem kindL_word : ∀ k, k < 9 → kindL (wordL k) = k := by
  intro k hk
  have : k = 0 ∨ k = 1 ∨ k = 2 ∨ k = 3 ∨ k = 4 ∨ k = 5 ∨ k = 6 ∨ k = 7 ∨ k = 8 := by omega
  rcases this with rfl | rfl | rfl | rfl | rfl | rfl | rfl | rfl | rfl <;> rfl
theorem kindL_none {l : List UInt8} (h : ∀ k, k < 9 → l ≠ wordL k) : kindL l = 0 := by
  rcases Decidable.em (kindL l = 0) with h0 | h0
  · exact h0
  · obtain ⟨h1, h2, h3⟩ := word_kind l h0
    exact absurd h1.symm (h _ (by omega))
theorem strB_ne {a b : List UInt8} (h : a ≠ b) : strB a ≠ strB b := fun e => h (by have := congrArg (fun x : ByteArray => x.data.toList) e; simpa [strB] using this)

set_option maxHeartbeats 2000000 in
theorem tr_kindOf {w : World} (hG : Glob w) (l : List UInt8) :
    Calls Tryd.prog 39 #[.string (strB l)] w fun e w' => e = .returned (.int .i64 (kindL l)) ∧ Wrote Nil w w' := by
  have h0 := hG.words 0 (by omega)
  have h1 := hG.words 1 (by omega)
  have h2 := hG.words 2 (by omega)
  have h3 := hG.words 3 (by omega)
  have h4 := hG.words 4 (by omega)
  have h5 := hG.words 5 (by omega)
  have h6 := hG.words 6 (by omega)
  have h7 := hG.words 7 (by omega)
  have h8 := hG.words 8 (by omega)
  go_enter Tryd.func39, Tryd.ntmps39
  go_wp2
  go_loopw [6] (fun iv wr => ∃ k : Nat, k ≤ 9 ∧ iv = .int .i64 k ∧ Hid (∀ j, j < k → l ≠ wordL j) ∧ Wrote Nil w wr) (fun iv _ => 9 - (intOf iv).toNat)
  case atStart => exact ⟨0, Nat.zero_le _, rfl, Lib.hid (fun j hj => absurd hj (by omega)), Wrote.refl _ _⟩
  case round =>
    obtain ⟨k, hk, rfl, hno, hW⟩ := hrel
    by_cases hk9 : k < 9
    · have hk9' : (k : Int) < 9 := by omega
      have k0 : (0 : Int) ≤ k := by omega
      have hix : ∀ W, (Instr.index 52 (.agg #[.string (strB (wordL 0)), .string (strB (wordL 1)), .string (strB (wordL 2)), .string (strB (wordL 3)), .string (strB (wordL 4)), .string (strB (wordL 5)), .string (strB (wordL 6)), .string (strB (wordL 7)), .string (strB (wordL 8))]) (.int .i64 k)).run Tryd.prog W = .ok (.string (strB (wordL k))) W := fun W => words_at k hk9 W
      have HS := Lib.hid (And.intro hno hW)
      clear hno hW h0 h1 h2 h3 h4 h5 h6 h7 h8
      by_cases he : l = wordL k
      · have hkl : kindL l = k := by rw [he]; exact kindL_word k hk9
        rw [← he] at hix
        have HK := Lib.hid hkl
        clear he hkl
        go_wp2
        refine bodyPost_ret (results_tmp rfl _ _ _) rfl ?_
        exact ⟨ret_i64 HK.out.symm, HS.out.2⟩
      · have hne : ((strB (wordL k)).toList == (strB l).toList) = false := by rw [strB_list, strB_list]; simpa using Ne.symm he
        have HK := Lib.hid he
        clear he
        generalize strB (wordL k) = sk at hix hne
        go_wp2
        have hno' : ∀ j, j < k + 1 → l ≠ wordL j := fun j hj => by
          rcases Nat.lt_or_ge j k with h | h
          · exact HS.out.1.out j h
          · obtain rfl : j = k := by omega
            exact HK.out
        exact ⟨⟨k + 1, by omega, by simp, Lib.hid hno', HS.out.2⟩, by simp [intOf]; omega⟩
    · obtain rfl : k = 9 := by omega
      have hkl : kindL l = 0 := kindL_none hno.out
      have HK := Lib.hid (And.intro hkl hW)
      clear hno hW hkl
      go_wp2
      go_ret
      exact ⟨ret_i64 HK.out.1.symm, HK.out.2⟩

theorem wrote_bytes (w : World) (e : TypeId) (s : ByteArray) : Wrote Nil w (Lib.bytesWorld w e s) := .ofBelow ⟨rfl, rfl, rfl, by rw [Lib.bytesWorld_size]; omega, fun j hj => Lib.bytesWorld_at_old w e s j hj⟩

set_option maxHeartbeats 2000000 in
theorem tr_number {w : World} (hG : Glob2 w) (l : List UInt8) (hl : l.length ≤ 100000) :
    Calls Tryd.prog 40 #[.string (strB l)] w fun e w' => e = .returned (.int .i64 (numP l)) ∧ Wrote Nil w w' := by
  rcases h : Lib.atoiAll l with v | _ | _
  · have c1 := Tryd.strconv_Atoi_ok (strB l) (by rw [strB_size]; omega) v h w
    have hv : numP l = v := by unfold numP; rw [h]
    rw [hv]
    clear hv h
    go_enter Tryd.func40, Tryd.ntmps40
    go_wp2_with (go_at_call 49; (with_reducible refine c1.mono ?_); rintro e w1 ⟨rfl, hw1⟩)
    go_ret
    refine ⟨rfl, ?_⟩
    rcases hw1 with rfl | ⟨t, rfl⟩
    · exact Wrote.refl _ _
    · exact wrote_bytes _ _ _
  · have hv : numP l = -1 := by unfold numP; rw [h]
    obtain ⟨tp, p, hvar⟩ := hG.synt
    have c1 := Any.strconv_Atoi_syntax_var Tryd.laysC172 (strB l) (by rw [strB_size]; omega) h tp p w hvar
    rw [hv]
    clear hv h
    go_enter Tryd.func40, Tryd.ntmps40
    go_wp2_with (go_at_call 49; refine c1.mono ?_; rintro e w1 ⟨N, rfl, hN, hb, hw1⟩; have HB := Lib.hid (And.intro hb hw1); clear hb hw1)
    go_ret
    exact ⟨rfl, .ofBelow HB.out.2⟩
  · have hv : numP l = -1 := by unfold numP; rw [h]
    obtain ⟨tp, p, hvar⟩ := hG.rng
    have c1 := Tryd.strconv_Atoi_range_var (strB l) (by rw [strB_size]; omega) h tp p w hvar
    rw [hv]
    clear hv h
    go_enter Tryd.func40, Tryd.ntmps40
    go_wp2_with (go_at_call 49; refine c1.mono ?_; rintro e w1 ⟨N, rfl, hN, hb, hw1⟩; have HB := Lib.hid (And.intro hb hw1); clear hb hw1)
    go_ret
    exact ⟨rfl, .ofBelow HB.out.2⟩
/-! the parts of a line -/
theorem splitK_few (k : Nat) : ∀ (s : List UInt8), ∀ p ∈ Lib.splitK [32] 0 k s, p.length ≤ s.length := by
  induction k with
  | zero => intro s p hp; simp only [Lib.splitK, List.mem_singleton] at hp; subst hp; exact Nat.le_refl _
  | succ k ih =>
    intro s p hp
    rw [Lib.splitK] at hp
    split at hp
    · rw [List.mem_singleton] at hp; subst hp; exact Nat.le_refl _
    · rcases List.mem_cons.1 hp with rfl | hp
      · rw [List.length_take]; omega
      · have := ih _ _ hp
        rw [List.length_drop] at this
        omega
theorem trim_few (l : List UInt8) : (Lib.trimSuffix l [10]).length ≤ l.length := by
  unfold Lib.trimSuffix
  split
  · rw [List.length_take]; omega
  · exact Nat.le_refl _
theorem parts_few (l : List UInt8) : ∀ p ∈ partsP l, p.length ≤ l.length := fun p hp => Nat.le_trans (splitK_few _ _ p hp) (trim_few l)
theorem map_strB (bs : List ByteArray) : (bs.map fun b => b.data.toList).map strB = bs := by
  rw [List.map_map]
  conv => rhs; rw [← List.map_id bs]
  exact List.map_congr_left fun b _ => rfl
theorem split_parts (l : List UInt8) : Lib.splitB ⟨#[32]⟩ 0 (min 4 ((strB (Lib.trimSuffix l [10])).size + 1) - 1) (strB (Lib.trimSuffix l [10])) = (partsP l).map strB := by
  have h := Lib.splitB_data ⟨#[32]⟩ 0 (min 4 ((strB (Lib.trimSuffix l [10])).size + 1) - 1) (strB (Lib.trimSuffix l [10]))
  rw [← map_strB (Lib.splitB _ _ _ _), h]
  rfl
theorem parts_le (l : List UInt8) : (partsP l).length ≤ min 4 ((strB (Lib.trimSuffix l [10])).size + 1) := by
  have h := Lib.splitB_length_le ⟨#[32]⟩ 0 (min 4 ((strB (Lib.trimSuffix l [10])).size + 1) - 1) (strB (Lib.trimSuffix l [10]))
  rw [split_parts, List.length_map] at h
  omega
theorem cellsOf_at (ps : List (List UInt8)) (N j : Nat) (hj : j < ps.length) : (Lib.cellsOf (ps.map strB) N)[j]? = some (.string (strB (ps.getD j []))) := by
  unfold Lib.cellsOf
  rw [List.getElem?_toArray, List.getElem?_append_left (by simpa using hj)]
  simp [List.getElem?_eq_getElem hj, List.getD_eq_getElem?_getD]

theorem four_set {w : World} {b : Nat} {c0 c1 c2 c3 : Value} {T : TypeId} (h : w.heap[b]? = some (.cells #[c0, c1, c2, c3] T (0, 0))) (v0 v1 v2 v3 : Value) :
    ((((w.setCell ⟨b, 0, none⟩ v0).setCell ⟨b, 1, none⟩ v1).setCell ⟨b, 2, none⟩ v2).setCell ⟨b, 3, none⟩ v3).heap[b]? = some (.cells #[v0, v1, v2, v3] T (0, 0)) := by
  simpa using blk_setCell (blk_setCell (blk_setCell (blk_setCell h 0 v0) 1 v1) 2 v2) 3 v3
theorem four_wrote {w0 w : World} {b : Nat} (h : Wrote Nil w0 w) (hb : w0.heap.size ≤ b) (v0 v1 v2 v3 : Value) :
    Wrote Nil w0 ((((w.setCell ⟨b, 0, none⟩ v0).setCell ⟨b, 1, none⟩ v1).setCell ⟨b, 2, none⟩ v2).setCell ⟨b, 3, none⟩ v3) :=
  (((h.setCell ⟨b, 0, none⟩ _ (fun x => absurd x (by simp only; omega))).setCell ⟨b, 1, none⟩ _ (fun x => absurd x (by simp only; omega))).setCell ⟨b, 2, none⟩ _ (fun x => absurd x (by simp only; omega))).setCell ⟨b, 3, none⟩ _ (fun x => absurd x (by simp only; omega))

theorem four_other {w : World} {b q j : Nat} {v : Value} (h : b ≠ q) (hc : w.cell? ⟨b, j, none⟩ = some v) (v0 v1 v2 v3 : Value) :
    ((((w.setCell ⟨q, 0, none⟩ v0).setCell ⟨q, 1, none⟩ v1).setCell ⟨q, 2, none⟩ v2).setCell ⟨q, 3, none⟩ v3).cell? ⟨b, j, none⟩ = some v := by
  rw [World.cell?_setCell_other _ _ _ _ (fun e => h (by cases e; rfl)), World.cell?_setCell_other _ _ _ _ (fun e => h (by cases e; rfl)), World.cell?_setCell_other _ _ _ _ (fun e => h (by cases e; rfl)), World.cell?_setCell_other _ _ _ _ (fun e => h (by cases e; rfl))]
  exact hc

/-- a new variable that the calls leave alone -/
structure NewBox (X : World) (T : TypeId) (w : World) (b : Nat) : Prop where
  blk : w.heap[b]? = some (.cells #[.int .i64 0, .int .i64 0, .int .i64 0, .bool false] T (0, 0))
  new : X.heap.size ≤ b
theorem NewBox.start {X w3 w4 : World} {T : TypeId} (h : Since X w3) (k : Wrote Nil (w3.alloc (.cells #[.int .i64 0, .int .i64 0, .int .i64 0, .bool false] T)) w4) : NewBox X T w4 w3.heap.size :=
  ⟨(k.block _ (blk_lt (Go.Deep.blk_alloc_new w3 _)) id).trans (Go.Deep.blk_alloc_new w3 _), h.wrote.size⟩
theorem NewBox.start0 {X w4 : World} {T : TypeId} (k : Wrote Nil (X.drew.alloc (.cells #[.int .i64 0, .int .i64 0, .int .i64 0, .bool false] T)) w4) : NewBox X T w4 X.heap.size := .start (w3 := X.drew) ⟨(Wrote.refl Nil X).drew⟩ k
theorem NewBox.next {X w w' : World} {T : TypeId} {b : Nat} (h : NewBox X T w b) (k : Wrote Nil w w') : NewBox X T w' b := ⟨(k.block _ (blk_lt h.blk) id).trans h.blk, h.new⟩
/-- the variable with its values -/
structure Done (X : World) (T : TypeId) (vs : Array Value) (w : World) (b : Nat) : Prop where
  wrote : Wrote Nil X w
  blk : w.heap[b]? = some (.cells vs T (0, 0))
  new : X.heap.size ≤ b
theorem Done.alloc {X w : World} (h : Since X w) (T : TypeId) (vs : Array Value) : Done X T vs (w.alloc (.cells vs T)) w.heap.size := ⟨h.wrote.alloc _, Go.Deep.blk_alloc_new w _, h.wrote.size⟩
theorem NewBox.done {X w : World} {T : TypeId} {b : Nat} (h : NewBox X T w b) (k : Since X w) (v0 v1 v2 v3 : Value) : Done X T #[v0, v1, v2, v3] ((((w.setCell ⟨b, 0, none⟩ v0).setCell ⟨b, 1, none⟩ v1).setCell ⟨b, 2, none⟩ v2).setCell ⟨b, 3, none⟩ v3) b :=
  ⟨four_wrote k.wrote h.new _ _ _ _, four_set h.blk _ _ _ _, h.new⟩
theorem NewBox.since {X w : World} {T : TypeId} {b : Nat} (h : NewBox X T w b) (k : Since X w) (v0 v1 v2 v3 : Value) : Since X ((((w.setCell ⟨b, 0, none⟩ v0).setCell ⟨b, 1, none⟩ v1).setCell ⟨b, 2, none⟩ v2).setCell ⟨b, 3, none⟩ v3) := ⟨(h.done k v0 v1 v2 v3).wrote⟩
theorem Since.alloc {X w : World} (h : Since X w) (o : Obj) : Since X (w.alloc o) := ⟨h.wrote.alloc o⟩
/-- what read answers -/
def ReadPost (w : World) (l : List UInt8) (e : Ending) (w' : World) : Prop :=
  ∃ x : Ent, e = .returned (.tuple #[.agg #[.int .i64 x.k, .int .i64 x.t, .int .i64 x.n, .bool x.ld], .bool (rd l).isSome]) ∧ (∀ y, rd l = some y → x = y) ∧ Wrote Nil w w'

set_option maxRecDepth 10000 in
set_option maxHeartbeats 4000000 in
theorem tr_read {w : World} (hG : Glob2 w) (l : List UInt8) (hl : l.length ≤ 10000) :
    Calls Tryd.prog 29 #[.string (strB l)] w (ReadPost w l) := by
  obtain ⟨m, hm⟩ := hG.maxLen
  have ht := trim_few l
  have hX0 := (Wrote.refl Nil w).alloc (.cells #[.int .i64 0, .int .i64 0, .int .i64 0, .bool false] 41)
  have c1 : ∀ W, Calls Tryd.prog 38 #[.string (strB l), .string ⟨#[10]⟩] W fun e w' => e = .returned (.string (strB (Lib.trimSuffix l [10]))) ∧ w' = W := fun W => Tryd.strings_TrimSuffix (strB l) ⟨#[10]⟩ W (by rw [strB_size]; omega)
  have hbox := Go.Deep.blk_alloc_new w (.cells #[.int .i64 0, .int .i64 0, .int .i64 0, .bool false] 41)
  have c2 := Tryd.strings_SplitN (strB (Lib.trimSuffix l [10])) ⟨#[32]⟩ 4 m (w.alloc (.cells #[.int .i64 0, .int .i64 0, .int .i64 0, .bool false] 41)) (by rw [strB_size]; omega) (hX0.old hm) (by decide) (by decide) (by decide)
  rw [split_parts, List.length_map] at c2
  have hpf := parts_few l
  have hpl := parts_le l
  have HP := Lib.hid (And.intro hpf (And.intro hX0 (And.intro hbox (cellsOf_at (partsP l) (min 4 ((strB (Lib.trimSuffix l [10])).size + 1))))))
  clear hpf hX0 hm hbox
  have hN4 : min 4 ((strB (Lib.trimSuffix l [10])).size + 1) ≤ 4 := Nat.min_le_left _ _
  generalize min 4 ((strB (Lib.trimSuffix l [10])).size + 1) = N at c2 hpl HP hN4
  have hrd : rd l = if (partsP l).length < 3 then none else if mayE (entP (partsP l)) = true ∧ lineE (entP (partsP l)) = l then some (entP (partsP l)) else none := rfl
  have HD := Lib.hid hrd
  clear hrd
  generalize strB (Lib.trimSuffix l [10]) = s2 at c1 c2
  generalize partsP l = ps at c2 HP HD hpl
  obtain ⟨np, hnp⟩ : ∃ np, np = ps.length := ⟨_, rfl⟩
  rw [← hnp] at c2 hpl
  have HN := Lib.hid hnp
  clear hnp
  go_enter Tryd.func29, Tryd.ntmps29
  have c2' : Calls Tryd.prog 37 #[.string s2, .string ⟨#[32]⟩, .int .i64 4] (w.alloc (.cells #[.int .i64 0, .int .i64 0, .int .i64 0, .bool false] 41)) fun e w2 => e = .returned (.slice (some ⟨w.heap.size + 1, 0, none⟩) np N) ∧ Wrote Nil w w2 ∧ w2.heap[w.heap.size]? = some (.cells #[.int .i64 0, .int .i64 0, .int .i64 0, .bool false] 41 (0, 0)) ∧ ∀ j, j < np → w2.cell? ⟨w.heap.size + 1, j, none⟩ = some (.string (strB (ps.getD j []))) := by
    refine c2.mono ?_
    rintro e w2 ⟨rfl, rfl⟩
    have hs1 : (w.alloc (.cells #[.int .i64 0, .int .i64 0, .int .i64 0, .bool false] 41)).heap.size = w.heap.size + 1 := by simp
    refine ⟨by rw [hs1], HP.out.2.1.alloc _, (Go.Deep.blk_alloc_lt _ _ _ (by rw [hs1]; omega)).trans HP.out.2.2.1, fun j hj => ?_⟩
    have hb := Go.Deep.blk_alloc_new (w.alloc (.cells #[.int .i64 0, .int .i64 0, .int .i64 0, .bool false] 41)) (.cells (Lib.cellsOf (List.map strB ps) N) 9)
    rw [hs1] at hb
    rw [blk_cell hb]
    exact HP.out.2.2.2 j (by rw [← HN.out]; exact hj)
  clear c2
  rcases Nat.lt_or_ge np 3 with h3 | h3
  · have hno : rd l = none := by rw [HD.out, if_pos (by rw [← HN.out]; exact h3)]
    have HO := Lib.hid hno
    clear hno
    go_wp2_with (first
      | (go_at_call 38; (with_reducible refine (c1 _).mono ?_); rintro e w1 ⟨rfl, rfl⟩)
      | (go_at_call 37; (with_reducible refine c2'.mono ?_); rintro e w2 ⟨rfl, hW2, hb2, hc2⟩; have k0 := blk_cell hb2 0; have k1 := blk_cell hb2 1; have k2 := blk_cell hb2 2; have k3 := blk_cell hb2 3; have f0 := blk_frozen hb2 0; have f1 := blk_frozen hb2 1; have f2 := blk_frozen hb2 2; have f3 := blk_frozen hb2 3; have H2 := Lib.hid (And.intro hW2 (And.intro hb2 hc2)); clear hW2 hb2 hc2 c2' c1))
    have hb := four_set H2.out.2.1 (.int .i64 0) (.int .i64 0) (.int .i64 0) (.bool false)
    have hW := four_wrote H2.out.1 (b := w.heap.size) (Nat.le_refl _) (.int .i64 0) (.int .i64 0) (.int .i64 0) (.bool false)
    refine bodyPost_ret (v := .tuple #[.agg #[.int .i64 0, .int .i64 0, .int .i64 0, .bool false], .bool false]) ?_ rfl ?_
    · have e0 := blk_cell hb 0
      have e1 := blk_cell hb 1
      have e2 := blk_cell hb 2
      have e3 := blk_cell hb 3
      simp [results, Tryd.f29, go_sem, e0, e1, e2, e3]
    · refine ⟨⟨0, 0, 0, false⟩, by rw [HO.out]; rfl, fun y hy => ?_, hW⟩
      rw [HO.out] at hy
      cases hy
  · have h34 : np = 3 ∨ np = 4 := by omega
    clear hpl hN4 h3
    go_wp2_with (first
      | (go_at_call 38; (with_reducible refine (c1 _).mono ?_); rintro e w1 ⟨rfl, rfl⟩)
      | (go_at_call 37; (with_reducible refine c2'.mono ?_); rintro e w2 ⟨rfl, hW2, hb2, hc2⟩; have H2 := Lib.hid (And.intro hW2 (And.intro hb2 hc2)); clear hW2 hb2 hc2 c2' c1))
    have g0 := H2.out.2.2 0 (by omega)
    have g1 := H2.out.2.2 1 (by omega)
    have g2 := H2.out.2.2 2 (by omega)
    obtain ⟨p0, hp0⟩ : ∃ p0, p0 = ps.getD 0 [] := ⟨_, rfl⟩
    obtain ⟨p1, hp1⟩ : ∃ p1, p1 = ps.getD 1 [] := ⟨_, rfl⟩
    obtain ⟨p2, hp2⟩ : ∃ p2, p2 = ps.getD 2 [] := ⟨_, rfl⟩
    have hmem : ∀ j, j < 3 → (ps.getD j []).length ≤ 100000 := fun j hj => by
      have hj' : j < ps.length := by rw [← HN.out]; omega
      have h1 : ps.getD j [] ∈ ps := by rw [List.getD_eq_getElem?_getD, List.getElem?_eq_getElem hj']; exact List.getElem_mem hj'
      have h2 := HP.out.1 _ h1
      omega
    have q0 := hmem 0 (by omega)
    have q1 := hmem 1 (by omega)
    have q2 := hmem 2 (by omega)
    obtain ⟨bv, hbv⟩ : ∃ bv, bv = decide (np = 4) := ⟨_, rfl⟩
    have hX : entP ps = ⟨kindL (ps.getD 0 []), numP (ps.getD 1 []), numP (ps.getD 2 []), bv⟩ := by
      rw [hbv]
      unfold entP
      rw [← HN.out]
    rw [← hp0] at g0 q0 hX
    rw [← hp1] at g1 q1 hX
    rw [← hp2] at g2 q2 hX
    have hG2 := hG.after H2.out.1
    have I0 : ∀ W, Since w2 W → Calls Tryd.prog 39 #[.string (strB p0)] W fun e w' => e = .returned (.int .i64 (kindL p0)) ∧ Since w2 w' ∧ Wrote Nil W w' := fun W h => (tr_kindOf (hG2.after h.wrote).one p0).mono fun e w' h2 => ⟨h2.1, h.nil h2.2, h2.2⟩
    have I1 : ∀ W, Since w2 W → Calls Tryd.prog 40 #[.string (strB p1)] W fun e w' => e = .returned (.int .i64 (numP p1)) ∧ Since w2 w' ∧ Wrote Nil W w' := fun W h => (tr_number (hG2.after h.wrote) p1 q1).mono fun e w' h2 => ⟨h2.1, h.nil h2.2, h2.2⟩
    have I2 : ∀ W, Since w2 W → Calls Tryd.prog 40 #[.string (strB p2)] W fun e w' => e = .returned (.int .i64 (numP p2)) ∧ Since w2 w' ∧ Wrote Nil W w' := fun W h => (tr_number (hG2.after h.wrote) p2 q2).mono fun e w' h2 => ⟨h2.1, h.nil h2.2, h2.2⟩
    have HI := Lib.hid (And.intro I0 (And.intro I1 I2))
    have hbq := H2.out.2.1
    obtain ⟨q, hq⟩ : ∃ q, q = w.heap.size := ⟨_, rfl⟩
    rw [← hq] at g0 g1 g2 hbq ⊢
    have HQ := Lib.hid (And.intro hbq hq)
    clear hbq hq
    have hS : ∀ W, Since w2 W → (W.cell? ⟨q + 1, 0, none⟩ = some (.string (strB p0)) ∧ W.cell? ⟨q + 1, 1, none⟩ = some (.string (strB p1)) ∧ W.cell? ⟨q + 1, 2, none⟩ = some (.string (strB p2)) ∧ Since w2 W) := fun W h => ⟨h.wrote.old g0, h.wrote.old g1, h.wrote.old g2, h⟩
    have HS := Lib.hid hS
    have HX := Lib.hid hX
    have HV := Lib.hid hbv
    clear hmem q0 q1 q2 hp0 hp1 hp2 I0 I1 I2 hS hG2 hX hbv
    generalize strB p0 = s0 at g0 HI HS
    generalize strB p1 = s1 at g1 HI HS
    generalize strB p2 = s2 at g2 HI HS
    generalize kindL p0 = v0 at HI HX
    generalize numP p1 = v1 at HI HX
    generalize numP p2 = v2 at HI HX
    go_cut [5] from 13 (fun pv w' => ∃ b, pv = .pointer (some ⟨b, 0, none⟩) ∧ Done w2 41 #[.int .i64 v0, .int .i64 v1, .int .i64 v2, .bool bv] w' b)
    case first =>
      clear HD HX HP
      rcases h34 with rfl | rfl
      · obtain rfl : bv = false := HV.out
        go_region_held3 (fun W => W.cell? ⟨q + 1, 0, none⟩ = some (.string s0) ∧ W.cell? ⟨q + 1, 1, none⟩ = some (.string s1) ∧ W.cell? ⟨q + 1, 2, none⟩ = some (.string s2) ∧ Since w2 W) (first | with_reducible exact HS.out _ hA | with_reducible exact HS.out _ (Since.alloc hA _) | with_reducible exact HS.out _ (NewBox.since kb hA _ _ _ _) | with_reducible exact HS.out _ ⟨((Wrote.refl Nil w2).alloc _).drew⟩ | with_reducible exact HS.out _ ⟨(Wrote.refl Nil w2).drew⟩)
          (first
            | (go_at_call 39; (with_reducible refine (HI.out.1 _ (by go_split_ands; assumption)).mono ?_); rintro e w3 ⟨rfl, hA1, hW1⟩; have kb := NewBox.next kb hW1; have hA := hA1; have k0 := blk_cell kb.blk 0; have k1 := blk_cell kb.blk 1; have k2 := blk_cell kb.blk 2; have k3 := blk_cell kb.blk 3; have f0 := blk_frozen kb.blk 0; have f1 := blk_frozen kb.blk 1; have f2 := blk_frozen kb.blk 2; have f3 := blk_frozen kb.blk 3)
            | (go_at_call 39; (with_reducible refine (HI.out.1 _ (by go_split_ands; assumption)).mono ?_); rintro e w3 ⟨rfl, hA1, hW1⟩; have kb := NewBox.start hA hW1; have hA := hA1; have k0 := blk_cell kb.blk 0; have k1 := blk_cell kb.blk 1; have k2 := blk_cell kb.blk 2; have k3 := blk_cell kb.blk 3; have f0 := blk_frozen kb.blk 0; have f1 := blk_frozen kb.blk 1; have f2 := blk_frozen kb.blk 2; have f3 := blk_frozen kb.blk 3)
            | (go_at_call 39; (with_reducible refine (HI.out.1 _ (by go_split_ands; assumption)).mono ?_); rintro e w3 ⟨rfl, hA1, hW1⟩; have kb := NewBox.start0 hW1; have hA := hA1; have k0 := blk_cell kb.blk 0; have k1 := blk_cell kb.blk 1; have k2 := blk_cell kb.blk 2; have k3 := blk_cell kb.blk 3; have f0 := blk_frozen kb.blk 0; have f1 := blk_frozen kb.blk 1; have f2 := blk_frozen kb.blk 2; have f3 := blk_frozen kb.blk 3)
            | (go_at_call 39; (with_reducible refine (HI.out.1 _ (by go_split_ands; assumption)).mono ?_); rintro e w3 ⟨rfl, hA1, hW1⟩; have hA := hA1)
            | (go_at_call 40; (with_reducible refine (HI.out.2.1 _ (by go_split_ands; assumption)).mono ?_); rintro e w4 ⟨rfl, hA1, hW1⟩; have kb := NewBox.next kb hW1; have hA := hA1; have k0 := blk_cell kb.blk 0; have k1 := blk_cell kb.blk 1; have k2 := blk_cell kb.blk 2; have k3 := blk_cell kb.blk 3; have f0 := blk_frozen kb.blk 0; have f1 := blk_frozen kb.blk 1; have f2 := blk_frozen kb.blk 2; have f3 := blk_frozen kb.blk 3)
            | (go_at_call 40; (with_reducible refine (HI.out.2.1 _ (by go_split_ands; assumption)).mono ?_); rintro e w4 ⟨rfl, hA1, hW1⟩; have kb := NewBox.start hA hW1; have hA := hA1; have k0 := blk_cell kb.blk 0; have k1 := blk_cell kb.blk 1; have k2 := blk_cell kb.blk 2; have k3 := blk_cell kb.blk 3; have f0 := blk_frozen kb.blk 0; have f1 := blk_frozen kb.blk 1; have f2 := blk_frozen kb.blk 2; have f3 := blk_frozen kb.blk 3)
            | (go_at_call 40; (with_reducible refine (HI.out.2.1 _ (by go_split_ands; assumption)).mono ?_); rintro e w4 ⟨rfl, hA1, hW1⟩; have kb := NewBox.start0 hW1; have hA := hA1; have k0 := blk_cell kb.blk 0; have k1 := blk_cell kb.blk 1; have k2 := blk_cell kb.blk 2; have k3 := blk_cell kb.blk 3; have f0 := blk_frozen kb.blk 0; have f1 := blk_frozen kb.blk 1; have f2 := blk_frozen kb.blk 2; have f3 := blk_frozen kb.blk 3)
            | (go_at_call 40; (with_reducible refine (HI.out.2.1 _ (by go_split_ands; assumption)).mono ?_); rintro e w4 ⟨rfl, hA1, hW1⟩; have hA := hA1)
            | (go_at_call 40; (with_reducible refine (HI.out.2.2 _ (by go_split_ands; assumption)).mono ?_); rintro e w5 ⟨rfl, hA1, hW1⟩; have kb := NewBox.next kb hW1; have hA := hA1; have k0 := blk_cell kb.blk 0; have k1 := blk_cell kb.blk 1; have k2 := blk_cell kb.blk 2; have k3 := blk_cell kb.blk 3; have f0 := blk_frozen kb.blk 0; have f1 := blk_frozen kb.blk 1; have f2 := blk_frozen kb.blk 2; have f3 := blk_frozen kb.blk 3)
            | (go_at_call 40; (with_reducible refine (HI.out.2.2 _ (by go_split_ands; assumption)).mono ?_); rintro e w5 ⟨rfl, hA1, hW1⟩; have kb := NewBox.start hA hW1; have hA := hA1; have k0 := blk_cell kb.blk 0; have k1 := blk_cell kb.blk 1; have k2 := blk_cell kb.blk 2; have k3 := blk_cell kb.blk 3; have f0 := blk_frozen kb.blk 0; have f1 := blk_frozen kb.blk 1; have f2 := blk_frozen kb.blk 2; have f3 := blk_frozen kb.blk 3)
            | (go_at_call 40; (with_reducible refine (HI.out.2.2 _ (by go_split_ands; assumption)).mono ?_); rintro e w5 ⟨rfl, hA1, hW1⟩; have kb := NewBox.start0 hW1; have hA := hA1; have k0 := blk_cell kb.blk 0; have k1 := blk_cell kb.blk 1; have k2 := blk_cell kb.blk 2; have k3 := blk_cell kb.blk 3; have f0 := blk_frozen kb.blk 0; have f1 := blk_frozen kb.blk 1; have f2 := blk_frozen kb.blk 2; have f3 := blk_frozen kb.blk 3)
            | (go_at_call 40; (with_reducible refine (HI.out.2.2 _ (by go_split_ands; assumption)).mono ?_); rintro e w5 ⟨rfl, hA1, hW1⟩; have hA := hA1))
        all_goals
          go_wp2
          go_meet
          first | exact ⟨_, rfl, kb.done hA _ _ _ _⟩ | exact ⟨_, rfl, Done.alloc hA _ _⟩
      · obtain rfl : bv = true := HV.out
        go_region_held3 (fun W => W.cell? ⟨q + 1, 0, none⟩ = some (.string s0) ∧ W.cell? ⟨q + 1, 1, none⟩ = some (.string s1) ∧ W.cell? ⟨q + 1, 2, none⟩ = some (.string s2) ∧ Since w2 W) (first | with_reducible exact HS.out _ hA | with_reducible exact HS.out _ (Since.alloc hA _) | with_reducible exact HS.out _ (NewBox.since kb hA _ _ _ _) | with_reducible exact HS.out _ ⟨((Wrote.refl Nil w2).alloc _).drew⟩ | with_reducible exact HS.out _ ⟨(Wrote.refl Nil w2).drew⟩)
          (first
            | (go_at_call 39; (with_reducible refine (HI.out.1 _ (by go_split_ands; assumption)).mono ?_); rintro e w3 ⟨rfl, hA1, hW1⟩; have kb := NewBox.next kb hW1; have hA := hA1; have k0 := blk_cell kb.blk 0; have k1 := blk_cell kb.blk 1; have k2 := blk_cell kb.blk 2; have k3 := blk_cell kb.blk 3; have f0 := blk_frozen kb.blk 0; have f1 := blk_frozen kb.blk 1; have f2 := blk_frozen kb.blk 2; have f3 := blk_frozen kb.blk 3)
            | (go_at_call 39; (with_reducible refine (HI.out.1 _ (by go_split_ands; assumption)).mono ?_); rintro e w3 ⟨rfl, hA1, hW1⟩; have kb := NewBox.start hA hW1; have hA := hA1; have k0 := blk_cell kb.blk 0; have k1 := blk_cell kb.blk 1; have k2 := blk_cell kb.blk 2; have k3 := blk_cell kb.blk 3; have f0 := blk_frozen kb.blk 0; have f1 := blk_frozen kb.blk 1; have f2 := blk_frozen kb.blk 2; have f3 := blk_frozen kb.blk 3)
            | (go_at_call 39; (with_reducible refine (HI.out.1 _ (by go_split_ands; assumption)).mono ?_); rintro e w3 ⟨rfl, hA1, hW1⟩; have kb := NewBox.start0 hW1; have hA := hA1; have k0 := blk_cell kb.blk 0; have k1 := blk_cell kb.blk 1; have k2 := blk_cell kb.blk 2; have k3 := blk_cell kb.blk 3; have f0 := blk_frozen kb.blk 0; have f1 := blk_frozen kb.blk 1; have f2 := blk_frozen kb.blk 2; have f3 := blk_frozen kb.blk 3)
            | (go_at_call 39; (with_reducible refine (HI.out.1 _ (by go_split_ands; assumption)).mono ?_); rintro e w3 ⟨rfl, hA1, hW1⟩; have hA := hA1)
            | (go_at_call 40; (with_reducible refine (HI.out.2.1 _ (by go_split_ands; assumption)).mono ?_); rintro e w4 ⟨rfl, hA1, hW1⟩; have kb := NewBox.next kb hW1; have hA := hA1; have k0 := blk_cell kb.blk 0; have k1 := blk_cell kb.blk 1; have k2 := blk_cell kb.blk 2; have k3 := blk_cell kb.blk 3; have f0 := blk_frozen kb.blk 0; have f1 := blk_frozen kb.blk 1; have f2 := blk_frozen kb.blk 2; have f3 := blk_frozen kb.blk 3)
            | (go_at_call 40; (with_reducible refine (HI.out.2.1 _ (by go_split_ands; assumption)).mono ?_); rintro e w4 ⟨rfl, hA1, hW1⟩; have kb := NewBox.start hA hW1; have hA := hA1; have k0 := blk_cell kb.blk 0; have k1 := blk_cell kb.blk 1; have k2 := blk_cell kb.blk 2; have k3 := blk_cell kb.blk 3; have f0 := blk_frozen kb.blk 0; have f1 := blk_frozen kb.blk 1; have f2 := blk_frozen kb.blk 2; have f3 := blk_frozen kb.blk 3)
            | (go_at_call 40; (with_reducible refine (HI.out.2.1 _ (by go_split_ands; assumption)).mono ?_); rintro e w4 ⟨rfl, hA1, hW1⟩; have kb := NewBox.start0 hW1; have hA := hA1; have k0 := blk_cell kb.blk 0; have k1 := blk_cell kb.blk 1; have k2 := blk_cell kb.blk 2; have k3 := blk_cell kb.blk 3; have f0 := blk_frozen kb.blk 0; have f1 := blk_frozen kb.blk 1; have f2 := blk_frozen kb.blk 2; have f3 := blk_frozen kb.blk 3)
            | (go_at_call 40; (with_reducible refine (HI.out.2.1 _ (by go_split_ands; assumption)).mono ?_); rintro e w4 ⟨rfl, hA1, hW1⟩; have hA := hA1)
            | (go_at_call 40; (with_reducible refine (HI.out.2.2 _ (by go_split_ands; assumption)).mono ?_); rintro e w5 ⟨rfl, hA1, hW1⟩; have kb := NewBox.next kb hW1; have hA := hA1; have k0 := blk_cell kb.blk 0; have k1 := blk_cell kb.blk 1; have k2 := blk_cell kb.blk 2; have k3 := blk_cell kb.blk 3; have f0 := blk_frozen kb.blk 0; have f1 := blk_frozen kb.blk 1; have f2 := blk_frozen kb.blk 2; have f3 := blk_frozen kb.blk 3)
            | (go_at_call 40; (with_reducible refine (HI.out.2.2 _ (by go_split_ands; assumption)).mono ?_); rintro e w5 ⟨rfl, hA1, hW1⟩; have kb := NewBox.start hA hW1; have hA := hA1; have k0 := blk_cell kb.blk 0; have k1 := blk_cell kb.blk 1; have k2 := blk_cell kb.blk 2; have k3 := blk_cell kb.blk 3; have f0 := blk_frozen kb.blk 0; have f1 := blk_frozen kb.blk 1; have f2 := blk_frozen kb.blk 2; have f3 := blk_frozen kb.blk 3)
            | (go_at_call 40; (with_reducible refine (HI.out.2.2 _ (by go_split_ands; assumption)).mono ?_); rintro e w5 ⟨rfl, hA1, hW1⟩; have kb := NewBox.start0 hW1; have hA := hA1; have k0 := blk_cell kb.blk 0; have k1 := blk_cell kb.blk 1; have k2 := blk_cell kb.blk 2; have k3 := blk_cell kb.blk 3; have f0 := blk_frozen kb.blk 0; have f1 := blk_frozen kb.blk 1; have f2 := blk_frozen kb.blk 2; have f3 := blk_frozen kb.blk 3)
            | (go_at_call 40; (with_reducible refine (HI.out.2.2 _ (by go_split_ands; assumption)).mono ?_); rintro e w5 ⟨rfl, hA1, hW1⟩; have hA := hA1))
        all_goals
          go_wp2
          go_meet
          first | exact ⟨_, rfl, kb.done hA _ _ _ _⟩ | exact ⟨_, rfl, Done.alloc hA _ _⟩
    case rest =>
      obtain ⟨b, rfl, HR⟩ := hcut
      generalize wc = Z at HR ⊢
      have hZ : Wrote Nil w2 Z := HR.wrote
      have e0 : Z.cell? ⟨b, 0, none⟩ = some (.int .i64 v0) := blk_cell HR.blk 0
      have e1 : Z.cell? ⟨b, 1, none⟩ = some (.int .i64 v1) := blk_cell HR.blk 1
      have e2 : Z.cell? ⟨b, 2, none⟩ = some (.int .i64 v2) := blk_cell HR.blk 2
      have e3 : Z.cell? ⟨b, 3, none⟩ = some (.bool bv) := blk_cell HR.blk 3
      have hbq : b ≠ q := fun e => by have h1 := blk_lt HQ.out.1; have h2 := HR.new; omega
      have hZq : Z.heap[q]? = some (.cells #[.int .i64 0, .int .i64 0, .int .i64 0, .bool false] 41 (0, 0)) := (hZ.block q (blk_lt HQ.out.1) id).trans HQ.out.1
      have hGZ : Glob2 Z := hG.after (H2.out.1.nil hZ)
      have hS1 : ∀ W, Since Z W → (W.cell? ⟨b, 0, none⟩ = some (.int .i64 v0) ∧ W.cell? ⟨b, 1, none⟩ = some (.int .i64 v1) ∧ W.cell? ⟨b, 2, none⟩ = some (.int .i64 v2) ∧ W.cell? ⟨b, 3, none⟩ = some (.bool bv)) := fun W h => ⟨h.wrote.old e0, h.wrote.old e1, h.wrote.old e2, h.wrote.old e3⟩
      have hS2 : ∀ W x0 x1 x2 x3, Since Z W → (((((W.setCell ⟨q, 0, none⟩ x0).setCell ⟨q, 1, none⟩ x1).setCell ⟨q, 2, none⟩ x2).setCell ⟨q, 3, none⟩ x3).cell? ⟨b, 0, none⟩ = some (.int .i64 v0) ∧ ((((W.setCell ⟨q, 0, none⟩ x0).setCell ⟨q, 1, none⟩ x1).setCell ⟨q, 2, none⟩ x2).setCell ⟨q, 3, none⟩ x3).cell? ⟨b, 1, none⟩ = some (.int .i64 v1) ∧ ((((W.setCell ⟨q, 0, none⟩ x0).setCell ⟨q, 1, none⟩ x1).setCell ⟨q, 2, none⟩ x2).setCell ⟨q, 3, none⟩ x3).cell? ⟨b, 2, none⟩ = some (.int .i64 v2) ∧ ((((W.setCell ⟨q, 0, none⟩ x0).setCell ⟨q, 1, none⟩ x1).setCell ⟨q, 2, none⟩ x2).setCell ⟨q, 3, none⟩ x3).cell? ⟨b, 3, none⟩ = some (.bool bv)) := fun W x0 x1 x2 x3 h => ⟨four_other hbq (h.wrote.old e0) _ _ _ _, four_other hbq (h.wrote.old e1) _ _ _ _, four_other hbq (h.wrote.old e2) _ _ _ _, four_other hbq (h.wrote.old e3) _ _ _ _⟩
      have c5 : ∀ W, Since Z W → Calls Tryd.prog 24 #[.agg #[.int .i64 v0, .int .i64 v1, .int .i64 v2, .bool bv]] W fun e w' => e = .returned (.bool (mayE ⟨v0, v1, v2, bv⟩)) ∧ Since Z w' := fun W h => (tr_right W v0 v1 v2 bv).mono fun e w' h2 => ⟨h2.1, h.nil h2.2⟩
      have hbox : ∀ W, Since Z W → W.heap[q]? = some (.cells #[.int .i64 0, .int .i64 0, .int .i64 0, .bool false] 41 (0, 0)) := fun W h => (h.wrote.block q (blk_lt hZq) id).trans hZq
      have hfin : ∀ W, Since Z W → Wrote Nil w ((((W.setCell ⟨q, 0, none⟩ (.int .i64 v0)).setCell ⟨q, 1, none⟩ (.int .i64 v1)).setCell ⟨q, 2, none⟩ (.int .i64 v2)).setCell ⟨q, 3, none⟩ (.bool bv)) := fun W h => four_wrote (H2.out.1.nil (hZ.nil h.wrote)) (Nat.le_of_eq HQ.out.2.symm) _ _ _ _
      have HB := Lib.hid (And.intro hbox hfin)
      have H1 := Lib.hid hS1
      have H3 := Lib.hid hS2
      clear HI HS g0 g1 g2 hbq hZ hZq hS1 hS2 hbox hfin HR
      cases hm : mayE ⟨v0, v1, v2, bv⟩ with
      | false =>
        have hno : rd l = none := by rw [HD.out, if_neg (by rw [← HN.out]; omega), if_neg (by rw [HX.out, hm]; simp)]
        have HO := Lib.hid hno
        rw [hm] at c5
        have HC := Lib.hid c5
        clear hm hno c5 hGZ
        go_wp2
        refine wp_region_noPanic ?_
        refine wp_region_held_drew (S := fun W => W.cell? ⟨b, 0, none⟩ = some (.int .i64 v0) ∧ W.cell? ⟨b, 1, none⟩ = some (.int .i64 v1) ∧ W.cell? ⟨b, 2, none⟩ = some (.int .i64 v2) ∧ W.cell? ⟨b, 3, none⟩ = some (.bool bv)) (by kernel_rfl) (H1.out _ ⟨(Wrote.refl Nil Z).drew⟩) (fun hHeld => ?_)
        refine wpAnyH_take (i := 0) (v := ?v1) rfl (by kernel_rfl) (by kernel_rfl) (by kernel_rfl) (fun _ _ _ h => h) (Or.inl ⟨by rfl, ?hy1⟩) (by assumption) ?rest1
        case hy1 => intro w hSw; (try dsimp only at hSw); go_simp; try with_reducible rfl
        (try simp only [Act.put, List.getElem_toArray, List.getElem_cons_zero, List.setIfInBounds_toArray, List.set_cons_zero, List.set_cons_succ])
        refine wpAnyH_take (i := 1) (v := ?v2) rfl (by kernel_rfl) (by kernel_rfl) (by kernel_rfl) (fun _ _ _ h => h) (Or.inl ⟨by rfl, ?hy2⟩) (by assumption) ?rest2
        case hy2 => intro w hSw; (try dsimp only at hSw); go_simp; try with_reducible rfl
        (try simp only [Act.put, List.getElem_toArray, List.getElem_cons_succ, List.getElem_cons_zero, List.setIfInBounds_toArray, List.set_cons_zero, List.set_cons_succ])
        refine wpAnyH_ready (rs := [2]) (by kernel_rfl) (by simp) ?_
        refine AllReadyH.cons rfl (fun K hK => ?_) AllReadyH.nil
        go_simp
        go_at_call 24
        with_reducible refine (HC.out _ ⟨(Wrote.refl Nil Z).drew⟩).mono ?_
        rintro e w6 ⟨rfl, hB⟩
        have bb := HB.out.1 _ hB; have k0 := blk_cell bb 0; have k1 := blk_cell bb 1; have k2 := blk_cell bb 2; have k3 := blk_cell bb 3; have f0 := blk_frozen bb 0; have f1 := blk_frozen bb 1; have f2 := blk_frozen bb 2; have f3 := blk_frozen bb 3
        go_wp2
        refine hK.out _ _ (H1.out _ hB) (fun hHeld2 => ?_)
        clear hHeld K hK
        have hHeld := hHeld2
        clear hHeld2
        (try simp only [Act.put, List.getElem_toArray, List.getElem_cons_succ, List.getElem_cons_zero, List.setIfInBounds_toArray, List.set_cons_zero, List.set_cons_succ])
        refine wpAnyH_take (i := 3) (v := ?v3) rfl (by kernel_rfl) (by kernel_rfl) (by kernel_rfl) (fun _ _ _ h => h) (Or.inl ⟨by rfl, ?hy3⟩) (by assumption) ?rest3
        case hy3 => intro w hSw; (try dsimp only at hSw); go_simp; try with_reducible rfl
        (try simp only [Act.put, List.getElem_toArray, List.getElem_cons_succ, List.getElem_cons_zero, List.setIfInBounds_toArray, List.set_cons_zero, List.set_cons_succ])
        refine wpAnyH_take (i := 4) (v := undef) rfl (by kernel_rfl) (by kernel_rfl) (by kernel_rfl) (fun _ _ _ h => h) (Or.inr ⟨by rfl, rfl⟩) (by assumption) ?rest4
        (try simp only [Act.put, List.getElem_toArray, List.getElem_cons_succ, List.getElem_cons_zero, List.setIfInBounds_toArray, List.set_cons_zero, List.set_cons_succ])
        refine wpAnyH_take (i := 5) (v := undef) rfl (by kernel_rfl) (by kernel_rfl) (by kernel_rfl) (fun _ _ _ h => h) (Or.inr ⟨by rfl, rfl⟩) (by assumption) ?rest5
        (try simp only [Act.put, List.getElem_toArray, List.getElem_cons_succ, List.getElem_cons_zero, List.setIfInBounds_toArray, List.set_cons_zero, List.set_cons_succ])
        refine wpAnyH_take (i := 6) (v := undef) rfl (by kernel_rfl) (by kernel_rfl) (by kernel_rfl) (fun _ _ _ h => h) (Or.inr ⟨by rfl, rfl⟩) (by assumption) ?rest6
        (try simp only [Act.put, List.getElem_toArray, List.getElem_cons_succ, List.getElem_cons_zero, List.setIfInBounds_toArray, List.set_cons_zero, List.set_cons_succ])
        refine wpAnyH_take (i := 7) (v := undef) rfl (by kernel_rfl) (by kernel_rfl) (by kernel_rfl) (fun _ _ _ h => h) (Or.inr ⟨by rfl, rfl⟩) (by assumption) ?rest7
        (try simp only [Act.put, List.getElem_toArray, List.getElem_cons_succ, List.getElem_cons_zero, List.setIfInBounds_toArray, List.set_cons_zero, List.set_cons_succ])
        refine wpAnyH_take (i := 8) (v := ?v8) rfl (by kernel_rfl) (by kernel_rfl) (by kernel_rfl) (fun _ _ _ h => h) (Or.inl ⟨by rfl, ?hy8⟩) (by assumption) ?rest8
        case hy8 => intro w hSw; (try dsimp only at hSw); go_simp; try with_reducible rfl
        (try simp only [Act.put, List.getElem_toArray, List.getElem_cons_succ, List.getElem_cons_zero, List.setIfInBounds_toArray, List.set_cons_zero, List.set_cons_succ])
        refine wpAnyH_ready (rs := [9]) (by kernel_rfl) (by simp) ?_
        refine AllReadyH.cons rfl (fun K hK => ?_) AllReadyH.nil
        go_simp
        refine hK.out _ _ (H3.out _ _ _ _ _ hB) (fun hHeld2 => ?_)
        clear hHeld K hK
        have hHeld := hHeld2
        clear hHeld2
        (try simp only [Act.put, List.getElem_toArray, List.getElem_cons_succ, List.getElem_cons_zero, List.setIfInBounds_toArray, List.set_cons_zero, List.set_cons_succ])
        refine wpAnyH_take (i := 10) (v := ?v9) rfl (by kernel_rfl) (by kernel_rfl) (by kernel_rfl) (fun _ _ _ h => h) (Or.inl ⟨by rfl, ?hy9⟩) (by assumption) ?rest9
        case hy9 => intro w hSw; (try dsimp only at hSw); go_simp; try with_reducible rfl
        (try simp only [Act.put, List.getElem_toArray, List.getElem_cons_succ, List.getElem_cons_zero, List.setIfInBounds_toArray, List.set_cons_zero, List.set_cons_succ])
        refine wpAnyH_done (by kernel_rfl) ?_ _
        refine NoPanic.normal ?_
        go_wp2
        have hb4 := four_set bb (.int .i64 v0) (.int .i64 v1) (.int .i64 v2) (.bool bv)
        refine bodyPost_ret (v := .tuple #[.agg #[.int .i64 v0, .int .i64 v1, .int .i64 v2, .bool bv], .bool false]) ?_ rfl ?_
        · have e0 := blk_cell hb4 0
          have e1 := blk_cell hb4 1
          have e2 := blk_cell hb4 2
          have e3 := blk_cell hb4 3
          simp [results, Tryd.f29, go_sem, e0, e1, e2, e3]
        · exact ⟨⟨v0, v1, v2, bv⟩, by rw [HO.out]; rfl, fun y hy => (by rw [HO.out] at hy; cases hy), HB.out.2 _ hB⟩
      | true =>
        rw [hm] at c5
        have c6 : ∀ W, Since Z W → Calls Tryd.prog 26 #[.agg #[.int .i64 v0, .int .i64 v1, .int .i64 v2, .bool bv]] W fun e w' => e = .returned (.string (strB (lineE ⟨v0, v1, v2, bv⟩))) ∧ Since Z w' := fun W h => (tr_line (hGZ.after h.wrote).one v0 v1 v2 bv hm).mono fun e w' h2 => ⟨h2.1, h.nil h2.2⟩
        have HC := Lib.hid (And.intro c5 c6)
        clear c5 c6 hGZ
        by_cases hl2 : lineE ⟨v0, v1, v2, bv⟩ = l
        · have hyes : rd l = some ⟨v0, v1, v2, bv⟩ := by rw [HD.out, if_neg (by rw [← HN.out]; omega), if_pos (by rw [HX.out]; exact ⟨hm, hl2⟩), HX.out]
          have HO := Lib.hid hyes
          rw [hl2] at HC
          clear hm hyes hl2
          generalize strB l = sl at HC ⊢
          go_wp2
          refine wp_region_noPanic ?_
          refine wp_region_held_drew (S := fun W => W.cell? ⟨b, 0, none⟩ = some (.int .i64 v0) ∧ W.cell? ⟨b, 1, none⟩ = some (.int .i64 v1) ∧ W.cell? ⟨b, 2, none⟩ = some (.int .i64 v2) ∧ W.cell? ⟨b, 3, none⟩ = some (.bool bv)) (by kernel_rfl) (H1.out _ ⟨(Wrote.refl Nil Z).drew⟩) (fun hHeld => ?_)
          refine wpAnyH_take (i := 0) (v := ?v101) rfl (by kernel_rfl) (by kernel_rfl) (by kernel_rfl) (fun _ _ _ h => h) (Or.inl ⟨by rfl, ?hy101⟩) (by assumption) ?rest101
          case hy101 => intro w hSw; (try dsimp only at hSw); go_simp; try with_reducible rfl
          (try simp only [Act.put, List.getElem_toArray, List.getElem_cons_zero, List.setIfInBounds_toArray, List.set_cons_zero, List.set_cons_succ])
          refine wpAnyH_take (i := 1) (v := ?v102) rfl (by kernel_rfl) (by kernel_rfl) (by kernel_rfl) (fun _ _ _ h => h) (Or.inl ⟨by rfl, ?hy102⟩) (by assumption) ?rest102
          case hy102 => intro w hSw; (try dsimp only at hSw); go_simp; try with_reducible rfl
          (try simp only [Act.put, List.getElem_toArray, List.getElem_cons_succ, List.getElem_cons_zero, List.setIfInBounds_toArray, List.set_cons_zero, List.set_cons_succ])
          refine wpAnyH_ready (rs := [2]) (by kernel_rfl) (by simp) ?_
          refine AllReadyH.cons rfl (fun K hK => ?_) AllReadyH.nil
          go_simp
          go_at_call 24
          with_reducible refine (HC.out.1 _ ⟨(Wrote.refl Nil Z).drew⟩).mono ?_
          rintro e w6 ⟨rfl, hB⟩
          go_wp2
          refine hK.out _ _ (H1.out _ hB) (fun hHeld2 => ?_)
          clear hHeld K hK
          have hHeld := hHeld2
          clear hHeld2
          (try simp only [Act.put, List.getElem_toArray, List.getElem_cons_succ, List.getElem_cons_zero, List.setIfInBounds_toArray, List.set_cons_zero, List.set_cons_succ])
          refine wpAnyH_take (i := 3) (v := ?v103) rfl (by kernel_rfl) (by kernel_rfl) (by kernel_rfl) (fun _ _ _ h => h) (Or.inl ⟨by rfl, ?hy103⟩) (by assumption) ?rest103
          case hy103 => intro w hSw; (try dsimp only at hSw); go_simp; try with_reducible rfl
          (try simp only [Act.put, List.getElem_toArray, List.getElem_cons_succ, List.getElem_cons_zero, List.setIfInBounds_toArray, List.set_cons_zero, List.set_cons_succ])
          refine wpAnyH_take (i := 4) (v := ?v104) rfl (by kernel_rfl) (by kernel_rfl) (by kernel_rfl) (fun _ _ _ h => h) (Or.inl ⟨by rfl, ?hy104⟩) (by assumption) ?rest104
          case hy104 => intro w hSw; (try dsimp only at hSw); go_simp; try with_reducible rfl
          (try simp only [Act.put, List.getElem_toArray, List.getElem_cons_succ, List.getElem_cons_zero, List.setIfInBounds_toArray, List.set_cons_zero, List.set_cons_succ])
          refine wpAnyH_take (i := 6) (v := ?v105) rfl (by kernel_rfl) (by kernel_rfl) (by kernel_rfl) (fun _ _ _ h => h) (Or.inl ⟨by rfl, ?hy105⟩) (by assumption) ?rest105
          case hy105 => intro w hSw; (try dsimp only at hSw); go_simp; try with_reducible rfl
          (try simp only [Act.put, List.getElem_toArray, List.getElem_cons_succ, List.getElem_cons_zero, List.setIfInBounds_toArray, List.set_cons_zero, List.set_cons_succ])
          refine wpAnyH_ready (rs := [5]) (by kernel_rfl) (by simp) ?_
          refine AllReadyH.cons rfl (fun K hK => ?_) AllReadyH.nil
          go_simp
          go_at_call 26
          with_reducible refine (HC.out.2 _ hB).mono ?_
          rintro e w7 ⟨rfl, hC⟩
          have bb := HB.out.1 _ hC; have k0 := blk_cell bb 0; have f0 := blk_frozen bb 0; have k1 := blk_cell bb 1; have f1 := blk_frozen bb 1; have k2 := blk_cell bb 2; have f2 := blk_frozen bb 2; have k3 := blk_cell bb 3; have f3 := blk_frozen bb 3
          go_wp2
          refine hK.out _ _ (H1.out _ hC) (fun hHeld2 => ?_)
          clear hHeld K hK
          have hHeld := hHeld2
          clear hHeld2
          (try simp only [Act.put, List.getElem_toArray, List.getElem_cons_succ, List.getElem_cons_zero, List.setIfInBounds_toArray, List.set_cons_zero, List.set_cons_succ])
          refine wpAnyH_take (i := 7) (v := ?v106) rfl (by kernel_rfl) (by kernel_rfl) (by kernel_rfl) (fun _ _ _ h => h) (Or.inl ⟨by rfl, ?hy106⟩) (by assumption) ?rest106
          case hy106 => intro w hSw; (try dsimp only at hSw); go_simp; try with_reducible rfl
          (try simp only [Act.put, List.getElem_toArray, List.getElem_cons_succ, List.getElem_cons_zero, List.setIfInBounds_toArray, List.set_cons_zero, List.set_cons_succ])
          refine wpAnyH_take (i := 8) (v := ?v107) rfl (by kernel_rfl) (by kernel_rfl) (by kernel_rfl) (fun _ _ _ h => h) (Or.inl ⟨by rfl, ?hy107⟩) (by assumption) ?rest107
          case hy107 => intro w hSw; (try dsimp only at hSw); go_simp; try with_reducible rfl
          (try simp only [Act.put, List.getElem_toArray, List.getElem_cons_succ, List.getElem_cons_zero, List.setIfInBounds_toArray, List.set_cons_zero, List.set_cons_succ])
          refine wpAnyH_ready (rs := [9]) (by kernel_rfl) (by simp) ?_
          refine AllReadyH.cons rfl (fun K hK => ?_) AllReadyH.nil
          go_simp
          refine hK.out _ _ (H3.out _ _ _ _ _ hC) (fun hHeld2 => ?_)
          clear hHeld K hK
          have hHeld := hHeld2
          clear hHeld2
          (try simp only [Act.put, List.getElem_toArray, List.getElem_cons_succ, List.getElem_cons_zero, List.setIfInBounds_toArray, List.set_cons_zero, List.set_cons_succ])
          refine wpAnyH_take (i := 10) (v := ?v108) rfl (by kernel_rfl) (by kernel_rfl) (by kernel_rfl) (fun _ _ _ h => h) (Or.inl ⟨by rfl, ?hy108⟩) (by assumption) ?rest108
          case hy108 => intro w hSw; (try dsimp only at hSw); go_simp; try with_reducible rfl
          (try simp only [Act.put, List.getElem_toArray, List.getElem_cons_succ, List.getElem_cons_zero, List.setIfInBounds_toArray, List.set_cons_zero, List.set_cons_succ])
          refine wpAnyH_done (by kernel_rfl) ?_ _
          refine NoPanic.normal ?_
          go_wp2
          have hb4 := four_set bb (.int .i64 v0) (.int .i64 v1) (.int .i64 v2) (.bool bv)
          refine bodyPost_ret (v := .tuple #[.agg #[.int .i64 v0, .int .i64 v1, .int .i64 v2, .bool bv], .bool true]) ?_ rfl ?_
          · have e0 := blk_cell hb4 0
            have e1 := blk_cell hb4 1
            have e2 := blk_cell hb4 2
            have e3 := blk_cell hb4 3
            simp [results, Tryd.f29, go_sem, e0, e1, e2, e3]
          · exact ⟨⟨v0, v1, v2, bv⟩, by rw [HO.out]; rfl, fun y hy => (by rw [HO.out] at hy; cases hy; rfl), HB.out.2 _ hC⟩
        · have hno : rd l = none := by rw [HD.out, if_neg (by rw [← HN.out]; omega), if_neg (by rw [HX.out]; exact fun h => hl2 h.2)]
          have HO := Lib.hid hno
          have hne : ((strB (lineE ⟨v0, v1, v2, bv⟩)).toList == (strB l).toList) = false := by rw [strB_list, strB_list]; simpa using hl2
          clear hm hno hl2
          generalize strB (lineE ⟨v0, v1, v2, bv⟩) = sx at HC hne
          generalize strB l = sl at hne ⊢
          go_wp2
          refine wp_region_noPanic ?_
          refine wp_region_held_drew (S := fun W => W.cell? ⟨b, 0, none⟩ = some (.int .i64 v0) ∧ W.cell? ⟨b, 1, none⟩ = some (.int .i64 v1) ∧ W.cell? ⟨b, 2, none⟩ = some (.int .i64 v2) ∧ W.cell? ⟨b, 3, none⟩ = some (.bool bv)) (by kernel_rfl) (H1.out _ ⟨(Wrote.refl Nil Z).drew⟩) (fun hHeld => ?_)
          refine wpAnyH_take (i := 0) (v := ?v109) rfl (by kernel_rfl) (by kernel_rfl) (by kernel_rfl) (fun _ _ _ h => h) (Or.inl ⟨by rfl, ?hy109⟩) (by assumption) ?rest109
          case hy109 => intro w hSw; (try dsimp only at hSw); go_simp; try with_reducible rfl
          (try simp only [Act.put, List.getElem_toArray, List.getElem_cons_zero, List.setIfInBounds_toArray, List.set_cons_zero, List.set_cons_succ])
          refine wpAnyH_take (i := 1) (v := ?v110) rfl (by kernel_rfl) (by kernel_rfl) (by kernel_rfl) (fun _ _ _ h => h) (Or.inl ⟨by rfl, ?hy110⟩) (by assumption) ?rest110
          case hy110 => intro w hSw; (try dsimp only at hSw); go_simp; try with_reducible rfl
          (try simp only [Act.put, List.getElem_toArray, List.getElem_cons_succ, List.getElem_cons_zero, List.setIfInBounds_toArray, List.set_cons_zero, List.set_cons_succ])
          refine wpAnyH_ready (rs := [2]) (by kernel_rfl) (by simp) ?_
          refine AllReadyH.cons rfl (fun K hK => ?_) AllReadyH.nil
          go_simp
          go_at_call 24
          with_reducible refine (HC.out.1 _ ⟨(Wrote.refl Nil Z).drew⟩).mono ?_
          rintro e w6 ⟨rfl, hB⟩
          go_wp2
          refine hK.out _ _ (H1.out _ hB) (fun hHeld2 => ?_)
          clear hHeld K hK
          have hHeld := hHeld2
          clear hHeld2
          (try simp only [Act.put, List.getElem_toArray, List.getElem_cons_succ, List.getElem_cons_zero, List.setIfInBounds_toArray, List.set_cons_zero, List.set_cons_succ])
          refine wpAnyH_take (i := 3) (v := ?v111) rfl (by kernel_rfl) (by kernel_rfl) (by kernel_rfl) (fun _ _ _ h => h) (Or.inl ⟨by rfl, ?hy111⟩) (by assumption) ?rest111
          case hy111 => intro w hSw; (try dsimp only at hSw); go_simp; try with_reducible rfl
          (try simp only [Act.put, List.getElem_toArray, List.getElem_cons_succ, List.getElem_cons_zero, List.setIfInBounds_toArray, List.set_cons_zero, List.set_cons_succ])
          refine wpAnyH_take (i := 4) (v := ?v112) rfl (by kernel_rfl) (by kernel_rfl) (by kernel_rfl) (fun _ _ _ h => h) (Or.inl ⟨by rfl, ?hy112⟩) (by assumption) ?rest112
          case hy112 => intro w hSw; (try dsimp only at hSw); go_simp; try with_reducible rfl
          (try simp only [Act.put, List.getElem_toArray, List.getElem_cons_succ, List.getElem_cons_zero, List.setIfInBounds_toArray, List.set_cons_zero, List.set_cons_succ])
          refine wpAnyH_take (i := 6) (v := ?v113) rfl (by kernel_rfl) (by kernel_rfl) (by kernel_rfl) (fun _ _ _ h => h) (Or.inl ⟨by rfl, ?hy113⟩) (by assumption) ?rest113
          case hy113 => intro w hSw; (try dsimp only at hSw); go_simp; try with_reducible rfl
          (try simp only [Act.put, List.getElem_toArray, List.getElem_cons_succ, List.getElem_cons_zero, List.setIfInBounds_toArray, List.set_cons_zero, List.set_cons_succ])
          refine wpAnyH_ready (rs := [5]) (by kernel_rfl) (by simp) ?_
          refine AllReadyH.cons rfl (fun K hK => ?_) AllReadyH.nil
          go_simp
          go_at_call 26
          with_reducible refine (HC.out.2 _ hB).mono ?_
          rintro e w7 ⟨rfl, hC⟩
          have bb := HB.out.1 _ hC; have k0 := blk_cell bb 0; have f0 := blk_frozen bb 0; have k1 := blk_cell bb 1; have f1 := blk_frozen bb 1; have k2 := blk_cell bb 2; have f2 := blk_frozen bb 2; have k3 := blk_cell bb 3; have f3 := blk_frozen bb 3
          go_wp2
          refine hK.out _ _ (H1.out _ hC) (fun hHeld2 => ?_)
          clear hHeld K hK
          have hHeld := hHeld2
          clear hHeld2
          (try simp only [Act.put, List.getElem_toArray, List.getElem_cons_succ, List.getElem_cons_zero, List.setIfInBounds_toArray, List.set_cons_zero, List.set_cons_succ])
          refine wpAnyH_take (i := 7) (v := ?v114) rfl (by kernel_rfl) (by kernel_rfl) (by kernel_rfl) (fun _ _ _ h => h) (Or.inl ⟨by rfl, ?hy114⟩) (by assumption) ?rest114
          case hy114 => intro w hSw; (try dsimp only at hSw); go_simp; try with_reducible rfl
          (try simp only [Act.put, List.getElem_toArray, List.getElem_cons_succ, List.getElem_cons_zero, List.setIfInBounds_toArray, List.set_cons_zero, List.set_cons_succ])
          refine wpAnyH_take (i := 8) (v := ?v115) rfl (by kernel_rfl) (by kernel_rfl) (by kernel_rfl) (fun _ _ _ h => h) (Or.inl ⟨by rfl, ?hy115⟩) (by assumption) ?rest115
          case hy115 => intro w hSw; (try dsimp only at hSw); go_simp; try with_reducible rfl
          (try simp only [Act.put, List.getElem_toArray, List.getElem_cons_succ, List.getElem_cons_zero, List.setIfInBounds_toArray, List.set_cons_zero, List.set_cons_succ])
          refine wpAnyH_ready (rs := [9]) (by kernel_rfl) (by simp) ?_
          refine AllReadyH.cons rfl (fun K hK => ?_) AllReadyH.nil
          go_simp
          refine hK.out _ _ (H3.out _ _ _ _ _ hC) (fun hHeld2 => ?_)
          clear hHeld K hK
          have hHeld := hHeld2
          clear hHeld2
          (try simp only [Act.put, List.getElem_toArray, List.getElem_cons_succ, List.getElem_cons_zero, List.setIfInBounds_toArray, List.set_cons_zero, List.set_cons_succ])
          refine wpAnyH_take (i := 10) (v := ?v116) rfl (by kernel_rfl) (by kernel_rfl) (by kernel_rfl) (fun _ _ _ h => h) (Or.inl ⟨by rfl, ?hy116⟩) (by assumption) ?rest116
          case hy116 => intro w hSw; (try dsimp only at hSw); go_simp; try with_reducible rfl
          (try simp only [Act.put, List.getElem_toArray, List.getElem_cons_succ, List.getElem_cons_zero, List.setIfInBounds_toArray, List.set_cons_zero, List.set_cons_succ])
          refine wpAnyH_done (by kernel_rfl) ?_ _
          refine NoPanic.normal ?_
          go_wp2
          have hb4 := four_set bb (.int .i64 v0) (.int .i64 v1) (.int .i64 v2) (.bool bv)
          refine bodyPost_ret (v := .tuple #[.agg #[.int .i64 v0, .int .i64 v1, .int .i64 v2, .bool bv], .bool false]) ?_ rfl ?_
          · have e0 := blk_cell hb4 0
            have e1 := blk_cell hb4 1
            have e2 := blk_cell hb4 2
            have e3 := blk_cell hb4 3
            simp [results, Tryd.f29, go_sem, e0, e1, e2, e3]
          · exact ⟨⟨v0, v1, v2, bv⟩, by rw [HO.out]; rfl, fun y hy => (by rw [HO.out] at hy; cases hy), HB.out.2 _ hC⟩
end Go.Proofs.YtihlokhejopphaaDoor
