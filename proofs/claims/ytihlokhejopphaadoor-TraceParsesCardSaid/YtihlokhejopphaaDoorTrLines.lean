/- What strings.Lines promises. -/
import Derived.Test.YtihlokhejopphaaDoorTrText
import Derived.Test.YtihlokhejopphaaDoorTrRange
import Derived.Test.YtihlokhejopphaaDoorShelf
import Derived.Lib.IndexLaws
import Derived.Laws.Slices
import Derived.BigRegionIn
namespace Go.Proofs.YtihlokhejopphaaDoor
open Go.RowKit Go.Shelf
set_option linter.unusedVariables false
attribute [local go_sem] Oper.semAt_some

theorem index_no10 {r : List UInt8} (h : (10 : UInt8) ∉ r) : Lib.indexByte r 10 = -1 := by
  induction r with
  | nil => rfl
  | cons c r ih =>
    have hc : c ≠ 10 := fun e => h (by simp [e])
    rw [Lib.indexByte, ih (fun hm => h (by simp [hm]))]
    simp [hc]
theorem index_at10 {a : List UInt8} (t : List UInt8) (h : (10 : UInt8) ∉ a) : Lib.indexByte (a ++ 10 :: t) 10 = a.length := by
  induction a with
  | nil => simp [Lib.indexByte]
  | cons c a ih =>
    have hc : c ≠ 10 := fun e => h (by simp [e])
    have hl : ((a.length : Int) == -1) = false := by rw [beq_eq_false_iff_ne]; omega
    rw [List.cons_append, Lib.indexByte, ih (fun hm => h (by simp [hm])), hl]
    simp [hc]
/-- the first line of a text, and what is behind it -/
theorem lines_case (r : List UInt8) (hr : r ≠ []) : (Lib.indexByte r 10 = -1 ∧ linesOf r = [r]) ∨ ∃ a t, r = a ++ 10 :: t ∧ Lib.indexByte r 10 = (a.length : Nat) ∧ linesOf r = (a ++ [10]) :: linesOf t ∧ r.take (a.length + 1) = a ++ [10] ∧ r.drop (a.length + 1) = t := by
  by_cases h : (10 : UInt8) ∈ r
  · obtain ⟨a, t, rfl, ha⟩ := List.eq_append_cons_of_mem h
    refine .inr ⟨a, t, rfl, index_at10 t ha, linesOf_app a t ha, ?_, ?_⟩
    · rw [List.take_append, List.take_of_length_le (by omega), Nat.add_sub_cancel_left]
      rfl
    · rw [List.drop_append, List.drop_eq_nil_of_le (by omega), Nat.add_sub_cancel_left]
      rfl
  · exact .inl ⟨index_no10 h, linesOf_no r h hr⟩
theorem strB_take (r : List UInt8) (k : Nat) : (strB r).extract 0 k = strB (r.take k) := by
  apply ByteArray.ext
  simp [strB, ByteArray.extract, ByteArray.copySlice]
theorem strB_drop (r : List UInt8) (k : Nat) : (strB r).extract k (strB r).size = strB (r.drop k) := by
  apply ByteArray.ext
  apply Array.toList_inj.1
  rw [ByteArray.data_extract, strB_size]
  simp only [strB, List.extract_toArray, List.extract_eq_take_drop]
  exact List.take_of_length_le (by rw [List.length_drop]; exact Nat.le_refl _)

theorem grown_drew {w w' : World} {row : Option Nat} (h : w.grownBy w' row) : w.grownBy w'.drew row := ⟨h.os, h.tape, h.output, h.size, h.block⟩
/-- how much of the text is left -/
def boxLen (Bs : Nat) (w : World) : Nat := match w.cell? ⟨Bs, 0, none⟩ with
  | some (.string s) => s.size
  | _ => 0

/-- a line, none too long -/
abbrev LE := { x : List UInt8 // x.length ≤ 10000 }
def encS (l : LE) : Array Value := #[.string (strB l.1)]
def lns (l : List LE) : List (List UInt8) := l.map fun x => x.1
theorem lns_snoc (l : List LE) (x : LE) : lns (l ++ [x]) = lns l ++ [x.1] := by simp [lns]
theorem lns_len (l : List LE) : (lns l).length = l.length := by simp [lns]
theorem linesOf_ne (s : List UInt8) : ∀ x ∈ linesOf s, 1 ≤ x.length := by
  induction s with
  | nil => intro x hx; simp [linesOf] at hx
  | cons c r ih =>
    intro x hx
    rw [linesOf] at hx
    split at hx
    · rcases List.mem_cons.1 hx with rfl | hx
      · exact Nat.le_refl _
      · exact ih x hx
    · cases hl : linesOf r with
      | nil => rw [hl] at hx; rw [List.mem_singleton.1 hx]; exact Nat.le_refl _
      | cons h t =>
        rw [hl] at hx
        rcases List.mem_cons.1 hx with rfl | hx
        · simp
        · exact ih x (by rw [hl]; exact List.mem_cons_of_mem _ hx)
theorem flats_len {l : List (List UInt8)} (h : ∀ x ∈ l, 1 ≤ x.length) : l.length ≤ l.flatten.length := by
  induction l with
  | nil => exact Nat.le_refl _
  | cons a l ih =>
    rw [List.flatten_cons, List.length_append, List.length_cons]
    have h1 := h a (by simp)
    have h2 := ih fun x hx => h x (by simp [hx])
    omega
theorem linesOf_few (s : List UInt8) : (linesOf s).length ≤ s.length := by
  have h := flats_len (linesOf_ne s)
  rwa [linesOf_join] at h

/-- strings.Lines' own function value -/
theorem lines_any (F : Fence) (n : Nat) (hF : F.fn 28) (hro : F.round = none) (s : ByteArray) (w : World) :
    CallsIn F n Tryd.prog 28 #[.string s] w fun e w' => e = .returned (.func (.func 35) #[] #[.pointer (some ⟨w.heap.size, 0, none⟩)]) ∧ w' = w.alloc (.cells #[.string s] 9) := by
  refine callsIn_of_wp Tryd.func28 rfl hF ?_ hro
  simp only [Tryd.ntmps28, List.size_toArray, List.length_cons, List.length_nil, Nat.reduceAdd, Nat.reduceSub, Array.replicate_succ, Array.replicate_zero, List.push_toArray, List.append_toArray, List.nil_append, List.cons_append]
  gi_wp2
  go_ret
  exact ⟨rfl, rfl⟩

set_option maxRecDepth 100000 in
set_option maxHeartbeats 2000000 in
theorem lines_stops (n : Nat) (hn : 2 ≤ n) (Bs : Nat) (s : List UInt8) (hs : s.length ≤ 10000) (w0 : World) (B0 : Nat)
    (hbox : w0.heap[Bs]? = some (.cells #[.string (strB s)] 9 (0, 0))) :
    SeqC Fence.wide n Tryd.prog 35 Bs B0 encS (fun ys => lns ys = linesOf s) (fun pre => ∃ k, lns pre = (linesOf s).take k) (linesOf s).length w0 := by
  intro l J Jx W hW hJ hJx hY h0
  have hro : Fence.wide.round = none := rfl
  have hbW : W.heap[Bs]? = some (.cells #[.string (strB s)] 9 (0, 0)) := (hW.block Bs (blk_lt hbox)).trans hbox
  have hY := Lib.hid hY
  have HJ := Lib.hid (And.intro hJ hJx)
  clear hW hbox hJ hJx
  refine callsIn_of_wp Tryd.func35 rfl trivial ?_ hro
  simp only [Tryd.ntmps35, List.size_toArray, List.length_cons, List.length_nil, Nat.reduceAdd, Nat.reduceSub, Array.replicate_succ, Array.replicate_zero, List.push_toArray, List.append_toArray, List.nil_append, List.cons_append]
  gi_wp2
  gi_loopw [3] (fun _ wr => ∃ (r : List UInt8) (pre : List LE), wr.heap[Bs]? = some (.cells #[.string (strB r)] 9 (0, 0)) ∧ r.length ≤ 10000 ∧ Hid (lns pre ++ linesOf r = linesOf s) ∧ J pre wr)
    (fun _ wr => boxLen Bs wr)
  case atStart => exact ⟨s, [], hbW, hs, Lib.hid rfl, h0⟩
  case round =>
    obtain ⟨r, pre, hb, hrl, hpre, hJs⟩ := hrel
    have hcr : wr.cell? ⟨Bs, 0, none⟩ = some (.string (strB r)) := blk_cell hb 0
    have hfr : wr.frozen? ⟨Bs, 0, none⟩ = false := blk_frozen hb 0
    by_cases hr : r = []
    · subst hr
      rw [show linesOf [] = [] from rfl, List.append_nil] at hpre
      have HP := Lib.hid (And.intro hpre.out hJs)
      have hz : (strB []).size = 0 := rfl
      generalize strB [] = sr at hcr hz
      clear hpre hJs hb hrl
      gi_wp2
      go_end0
      exact ⟨⟨_, rfl⟩, .inl ⟨_, HP.out.1, HP.out.2⟩⟩
    · have hpos : 0 < r.length := List.length_pos_iff.2 hr
      have hsz : (strB r).size = r.length := rfl
      have c1 := fun W => Tryd.strings_IndexByte (strB r) 10 W
      rw [strB_data] at c1
      have hne := lines_case r hr
      have hlt : pre.length < (linesOf s).length := by
        rw [← hpre.out, List.length_append, lns_len]
        have : 0 < (linesOf r).length := by rcases hne with ⟨_, h⟩ | ⟨a, t, _, _, h, _⟩ <;> rw [h] <;> simp
        omega
      rcases hne with ⟨hix, hli⟩ | ⟨a, t, hrat, hix, hli, htk, hdr⟩
      · have hix' : Lib.indexByte r (10 : Int).toNat.toUInt8 = -1 := hix
        rw [hix'] at c1
        rw [hli] at hpre
        obtain ⟨fn, tmps, assign, body, hy, hR⟩ := hY.out pre ⟨r, hrl⟩ (wr.setCell ⟨Bs, 0, none⟩ (.string ⟨#[]⟩)) (HJ.out.1 _ _ _ hJs (grownBy_setCell' _ _ _)) hlt
        dsimp only [encS] at hy
        have hbs : (wr.setCell ⟨Bs, 0, none⟩ (.string ⟨#[]⟩)).heap[Bs]? = some (.cells #[.string (strB [])] 9 (0, 0)) := blk_setCell hb 0 (.string ⟨#[]⟩)
        have hbl : boxLen Bs wr = r.length := by unfold boxLen; rw [hcr]; rfl
        have HX := Lib.hid (And.intro hpre.out (And.intro hbs hbl))
        clear hpre hb hJs hli hix hix' hbs hbl
        generalize strB r = sr at hcr hsz c1 hy
        gi_wp2_with (refine ⟨trivial, (fun h => nomatch h), ?_⟩; gi_at_call 36; refine ((callsIn_wide).2 (c1 _)).mono ?_; rintro e w' ⟨rfl, rfl⟩)
        refine ⟨(fun h => nomatch h), hR.mono ?_⟩
        rintro e W3 (⟨rfl, hJ3, hk3⟩ | ⟨rfl, hJx3⟩)
        · gi_wp2
          go_roundw
          case rel => exact ⟨[], pre ++ [⟨r, hrl⟩], hk3.box _ HX.out.2.1, by simp, Lib.hid (by rw [show linesOf [] = [] from rfl, List.append_nil, lns_snoc]; exact HX.out.1), hJ3⟩
          case measure =>
            have h1 : boxLen Bs W3 = 0 := by
              have := blk_cell (hk3.box _ HX.out.2.1) 0
              unfold boxLen
              rw [this]
              rfl
            rw [h1, HX.out.2.2]
            exact hpos
        · gi_wp2
          refine bodyPost_ret (results_none rfl _ _ _) rfl ?_
          exact ⟨⟨_, rfl⟩, .inr ⟨_, ⟨(lns pre ++ [r]).length, by rw [← HX.out.1, lns_snoc]; exact (List.take_of_length_le (Nat.le_refl _)).symm⟩, hJx3⟩⟩
      · have hs1 : ∀ W, (Instr.slice 9 (.string (strB r)) none (some (.int .i64 ((a.length : Nat) + 1 : Int))) none).run Tryd.prog W = .ok (.string (strB (a ++ [10]))) W := fun W => by
          have hle : a.length + 1 ≤ r.length := by rw [hrat]; simp
          rw [run_slice_string_h W 9 (strB r) Tryd.underlying9 .i64 _ (by omega) (by rw [strB_size]; omega), show ((a.length : Nat) + 1 : Int).toNat = a.length + 1 by omega, strB_take, htk]
        have hs2 : ∀ W, (Instr.slice 9 (.string (strB r)) (some (.int .i64 ((a.length : Nat) + 1 : Int))) none none).run Tryd.prog W = .ok (.string (strB t)) W := fun W => by
          have hle : a.length + 1 ≤ r.length := by rw [hrat]; simp
          rw [run_slice_string_l W 9 (strB r) Tryd.underlying9 .i64 _ (by omega) (by rw [strB_size]; omega), show ((a.length : Nat) + 1 : Int).toNat = a.length + 1 by omega, strB_drop, hdr]
        have hix' : Lib.indexByte r (10 : Int).toNat.toUInt8 = (a.length : Nat) := hix
        have hal : (a ++ [10]).length ≤ 10000 := by have : r.length = a.length + (t.length + 1) := by { rw [hrat]; simp }; rw [List.length_append, List.length_singleton]; omega
        have hma : a.length ≤ 100000 := by rw [List.length_append] at hal; omega
        have htl : t.length < r.length := by rw [hrat]; simp; omega
        rw [hix'] at c1
        rw [hli] at hpre
        have hbl : boxLen Bs wr = r.length := by unfold boxLen; rw [hcr]; rfl
        have HX := Lib.hid (And.intro hpre.out (And.intro hb (And.intro hbl (And.intro hJs (And.intro htl hlt)))))
        clear hpre hb hJs hli hix hix' hbl hrat htk hdr htl hlt
        generalize strB r = sr at hcr hsz c1 hs1 hs2 HX
        obtain ⟨s1, hs1e⟩ : ∃ s1, s1 = strB (a ++ [10]) := ⟨_, rfl⟩
        obtain ⟨s2, hs2e⟩ : ∃ s2, s2 = strB t := ⟨_, rfl⟩
        rw [← hs1e] at hs1
        rw [← hs2e] at hs2
        have HE := Lib.hid (And.intro hs1e hs2e)
        clear hs1e hs2e
        obtain ⟨m, hm⟩ : ∃ m, m = a.length := ⟨_, rfl⟩
        rw [← hm] at c1 hs1 hs2 hma
        clear hm
        have m0 : (0 : Int) ≤ m := by omega
        gi_wp2_with (refine ⟨trivial, (fun h => nomatch h), ?_⟩; gi_at_call 36; refine ((callsIn_wide).2 (c1 _)).mono ?_; rintro e w' ⟨rfl, rfl⟩)
        gi_region
        have hXs : ((w'.setCell ⟨Bs, 0, none⟩ (.string s2)).drew).heap[Bs]? = some (.cells #[.string (strB t)] 9 (0, 0)) := by rw [← HE.out.2]; exact blk_setCell HX.out.2.1 0 (.string s2)
        have hJX : J pre ((w'.setCell ⟨Bs, 0, none⟩ (.string s2)).drew) := HJ.out.1 _ _ _ HX.out.2.2.2.1 (grown_drew (grownBy_setCell' w' Bs (.string s2)))
        have hbl : boxLen Bs w' = r.length := HX.out.2.2.1
        generalize (w'.setCell ⟨Bs, 0, none⟩ (.string s2)).drew = X at hXs hJX ⊢
        obtain ⟨fn, tmps, assign, body, hy, hR⟩ := hY.out pre ⟨a ++ [10], hal⟩ X hJX HX.out.2.2.2.2.2
        dsimp only [encS] at hy
        rw [← HE.out.1] at hy
        have HZ := Lib.hid (And.intro hXs hbl)
        clear hXs hbl hJX
        gi_wp2
        refine ⟨(fun h => nomatch h), hR.mono ?_⟩
        rintro e W3 (⟨rfl, hJ3, hk3⟩ | ⟨rfl, hJx3⟩)
        · gi_wp2
          go_roundw
          case rel => exact ⟨t, pre ++ [⟨a ++ [10], hal⟩], hk3.box _ HZ.out.1, by have := HX.out.2.2.2.2.1; omega, Lib.hid (by rw [← HX.out.1, lns_snoc, List.append_assoc]; rfl), hJ3⟩
          case measure =>
            have h1 : boxLen Bs W3 = t.length := by
              have := blk_cell (hk3.box _ HZ.out.1) 0
              unfold boxLen
              rw [this]
              rfl
            rw [h1, HZ.out.2]
            exact HX.out.2.2.2.2.1
        · gi_wp2
          refine bodyPost_ret (results_none rfl _ _ _) rfl ?_
          refine ⟨⟨_, rfl⟩, .inr ⟨_, ⟨(lns pre ++ [a ++ [10]]).length, ?_⟩, hJx3⟩⟩
          rw [← HX.out.1, lns_snoc, show lns pre ++ (a ++ [10]) :: linesOf t = (lns pre ++ [a ++ [10]]) ++ linesOf t by rw [List.append_assoc]; rfl, List.take_left]
end Go.Proofs.YtihlokhejopphaaDoor
