/- The contracts of the reference's port: words laid anew, all touches so far, and each thread's counts. -/
import Derived.Test.YteacdcdjdbobnaaGreatPortNew
import Derived.Deep.AppendLies
namespace Go.Proofs.YteacdcdjdbobnaaGreat
open Go.RowKit
set_option linter.unusedVariables false
set_option maxRecDepth 100000

/-! ### append to nil, of whatever row of one-cell elements, at the list of a plain region's operations -/
theorem wpList_append_fresh {P : Program} {ops : Array Oper} {rest : List Oper} {o : Oper} {a : Act} {w : World} {Q : Exit → Act → World → Prop}
    (hg : o.guard = none) (s x : Operand) (t : TypeId) (hop : o.op = Op.call { callee := Callee.builtin Builtin.append, args := #[s, x], argTypes := #[t, t] })
    (e : TypeId) (i : TypeInfo) (z : Value) (bytes : Nat) (h1 : P.underlying t = some (.slice e)) (h2 : P.info? e = some i) (h3 : i.zero = some z) (h4 : i.size = 1) (h5 : i.bytes = bytes) (h6 : z.cells.size = 1)
    (hs : a.eval s = .slice none 0 0) (sa : Option Addr) (m c : Nat) (news : List Value) (hx : a.eval x = .slice sa m c) (hnone : sa = none → m = 0) (hn : news.length = m)
    (hc : ∀ b, sa = some b → ∀ j u, news[j]? = some u → w.cell? (b.add j) = some u) (h1c : ∀ u ∈ news, u.oneCell' = true)
    (b1 : m ≤ maxLen) (b2 : m * bytes ≤ 140737488355328)
    (hK : ∀ ao cap w', w'.ownsRow w.heap.size e 1 (.slice ao m cap) m news → w.grownBy w' none → wpList P ops Q rest (a.put o.dst (.slice ao m cap)) w') : wpList P ops Q (o :: rest) a w := by
  refine wpList_plain hg fun K hK' => ?_
  have h := step_append_fresh (P := P) (ops := ops) (o := o) (a := a) (w := w) (K := K) (Q := Q) (E := True) hg s x t hop e i z bytes h1 h2 h3 h4 h5 h6 hs sa m c news hx hnone hn hc h1c b1 b2 (fun ao cap w' r1 r2 => hK' _ _ (hK ao cap w' r1 r2))
  rw [if_pos (by simp [Region.wanted, hg])] at h
  exact h

/-! ### the reference's port in the heap -/
def cntN (s : PSta) (j : Nat) : Nat := if j % 3 = 0 then s.ac.getD (j / 3) 0 else if j % 3 = 1 then s.wc.getD (j / 3) 0 else s.mc.getD (j / 3) 0
def cntV (s : PSta) (j : Nat) : Value := .int .i64 (cntN s j : Int)
theorem cnt0 (s : PSta) (t : Nat) : cntN s (t * 3) = s.ac.getD t 0 := by unfold cntN; rw [if_pos (by omega), show t * 3 / 3 = t by omega]
theorem cnt1 (s : PSta) (t : Nat) : cntN s (t * 3 + 1) = s.wc.getD t 0 := by unfold cntN; rw [if_neg (by omega), if_pos (by omega), show (t * 3 + 1) / 3 = t by omega]
theorem cnt2 (s : PSta) (t : Nat) : cntN s (t * 3 + 2) = s.mc.getD t 0 := by unfold cntN; rw [if_neg (by omega), if_neg (by omega), show (t * 3 + 2) / 3 = t by omega]

/-- at or above base -/
def Abv (base k : Nat) : Prop := base ≤ k
structure RefAt (w : World) (base r bk : Nat) (so : Option Addr) (cap : Nat) (dv : Value) (s : PSta) : Prop where
  obj : w.heap[r]? = some (.cells #[.slice so s.ws.length cap, .int .i64 s.ac.length, dv, .slice (some ⟨bk, 0, none⟩) s.ac.length s.ac.length] 83 (0, 0))
  words : RowAt .u32 w so s.ws.length s.ws
  wblk : ∀ a, so = some a → base ≤ a.block ∧ a.block ≠ r ∧ a.block ≠ bk ∧ dv.ownBlock ≠ some a.block
  touched : w.ownsRow base 182 3 dv s.D.length (s.D.flatMap tchCells)
  tblk : dv.ownBlock ≠ some r ∧ dv.ownBlock ≠ some bk
  counts : w.rowIs bk 109 (s.ac.length * 3) (cntV s)
  lv : s.wc.length = s.ac.length
  lm : s.mc.length = s.ac.length
  rngA : ∀ x ∈ s.ac, x ≤ s.D.length
  rngV : ∀ x ∈ s.wc, x ≤ s.D.length
  rngM : ∀ x ∈ s.mc, x ≤ s.D.length
  rngW : ∀ z ∈ s.ws, 0 ≤ z ∧ z < 4294967296
  low : base ≤ r ∧ base ≤ bk ∧ r ≠ bk
def RefSt (w : World) (base r : Nat) (s : PSta) : Prop := ∃ bk so cap dv, RefAt w base r bk so cap dv s

namespace RefAt
variable {w w' : World} {base r bk : Nat} {so : Option Addr} {cap : Nat} {dv : Value} {s : PSta}
theorem cell0 (h : RefAt w base r bk so cap dv s) : w.cell? ⟨r, 0, none⟩ = some (.slice so s.ws.length cap) := by rw [blk_cell h.obj]; rfl
theorem cell1 (h : RefAt w base r bk so cap dv s) : w.cell? ⟨r, 1, none⟩ = some (.int .i64 s.ac.length) := by rw [blk_cell h.obj]; rfl
theorem cell2 (h : RefAt w base r bk so cap dv s) : w.cell? ⟨r, 2, none⟩ = some dv := by rw [blk_cell h.obj]; rfl
theorem cell3 (h : RefAt w base r bk so cap dv s) : w.cell? ⟨r, 3, none⟩ = some (.slice (some ⟨bk, 0, none⟩) s.ac.length s.ac.length) := by rw [blk_cell h.obj]; rfl
theorem frozen (h : RefAt w base r bk so cap dv s) (k : Nat) : w.frozen? ⟨r, k, none⟩ = false := blk_frozen h.obj k
theorem count0 (h : RefAt w base r bk so cap dv s) {t : Nat} (ht : t < s.ac.length) : w.cell? ⟨bk, t * 3, none⟩ = some (.int .i64 ((s.ac.getD t 0 : Nat) : Int)) := by
  rw [h.counts.cell (show t * 3 < s.ac.length * 3 by omega)]; unfold cntV; rw [cnt0]
theorem count1 (h : RefAt w base r bk so cap dv s) {t : Nat} (ht : t < s.ac.length) : w.cell? ⟨bk, t * 3 + 1, none⟩ = some (.int .i64 ((s.wc.getD t 0 : Nat) : Int)) := by
  rw [h.counts.cell (show t * 3 + 1 < s.ac.length * 3 by omega)]; unfold cntV; rw [cnt1]
theorem count2 (h : RefAt w base r bk so cap dv s) {t : Nat} (ht : t < s.ac.length) : w.cell? ⟨bk, t * 3 + 2, none⟩ = some (.int .i64 ((s.mc.getD t 0 : Nat) : Int)) := by
  rw [h.counts.cell (show t * 3 + 2 < s.ac.length * 3 by omega)]; unfold cntV; rw [cnt2]
theorem after (h : RefAt w base r bk so cap dv s) {S : Nat → Prop} (k : Wrote S w w') (hS : ∀ b, base ≤ b → ¬ S b) : RefAt w' base r bk so cap dv s :=
  ⟨(k.block r (blk_lt h.obj) (hS _ h.low.1)).trans h.obj, h.words.wrote k (fun a ha => hS _ (h.wblk a ha).1), h.wblk, ownsRow_keep h.touched (fun j hj => k.block j (h.touched.lt j hj).2 (hS _ (h.touched.lt j hj).1)), h.tblk,
    h.counts.of_block (k.block bk h.counts.lt (hS _ h.low.2.1)), h.lv, h.lm, h.rngA, h.rngV, h.rngM, h.rngW, h.low⟩
theorem slice (h : RefAt w base r bk so cap dv s) : ∃ sa cap, dv = .slice sa s.D.length cap ∧ RecsAt tchCells 3 w sa s.D.length s.D := by
  obtain ⟨sa, cap, h1, h2, h3, h4⟩ := own_recs tch_len h.touched (by decide)
  exact ⟨sa, cap, h1, h3⟩
end RefAt

theorem info_cnt : (Tryz.prog.info? 109).map (fun i => (i.zero, i.size, i.bytes)) = some (some (.agg #[.int .i64 0, .int .i64 0, .int .i64 0]), 3, 24) := by kernel_rfl
theorem info_tch : (Tryz.prog.info? 182).map (fun i => (i.zero, i.size, i.bytes)) = some (some (.agg #[.int .i64 0, .int .i64 0, .bool false]), 3, 24) := by kernel_rfl

def RNewPost (w0 : World) (base : Nat) (s : PSta) (e : Ending) (w' : World) : Prop :=
  ∃ r, e = .returned (.pointer (some ⟨r, 0, none⟩)) ∧ RefSt w' base r s ∧ Wrote Nil w0 w'

theorem made_cnt (n : Nat) (j : Nat) (hj : j < n * 3) : (madeCells #[Value.int .i64 0, .int .i64 0, .int .i64 0] (n * 3))[j]? = some (.int .i64 0) := by
  have h : j % 3 = 0 ∨ j % 3 = 1 ∨ j % 3 = 2 := by omega
  rcases h with h | h | h <;> simp [madeCells, hj, h]
theorem newS_cnt (n : Nat) (vs : List Int) (j : Nat) : cntV (newS n vs) j = .int .i64 0 := by
  have h : ∀ k, (List.replicate n 0).getD k 0 = 0 := by
    intro k
    rw [List.getD_eq_getElem?_getD, List.getElem?_replicate]
    split <;> rfl
  unfold cntV cntN newS
  simp only [h]
  split <;> (try split) <;> rfl

theorem rnew_made {w w' : World} {ao : Option Addr} {m cap n : Nat} {vs : List Int} (hl : vs.length = m) (wf : ∀ z ∈ vs, 0 ≤ z ∧ z < 4294967296)
    (hown : w'.ownsRow ((w.alloc (.cells (madeCells #[.int .i64 0, .int .i64 0, .int .i64 0] (n * 3)) 109)).alloc (.cells #[.slice none 0 0, .int .i64 n, .slice none 0 0, .slice (some ⟨w.heap.size, 0, none⟩) n n] 83)).heap.size 84 1 (.slice ao m cap) m (vs.map (Value.int .u32)))
    (hgrow : ((w.alloc (.cells (madeCells #[.int .i64 0, .int .i64 0, .int .i64 0] (n * 3)) 109)).alloc (.cells #[.slice none 0 0, .int .i64 n, .slice none 0 0, .slice (some ⟨w.heap.size, 0, none⟩) n n] 83)).grownBy w' none) :
    w'.cell? ⟨w.heap.size + 1, 0, none⟩ = some (.slice none 0 0) ∧ w'.frozen? ⟨w.heap.size + 1, 0, none⟩ = false ∧
    RefAt (w'.setCell ⟨w.heap.size + 1, 0, none⟩ (.slice ao m cap)) w.heap.size (w.heap.size + 1) w.heap.size ao cap (.slice none 0 0) (newS n vs) ∧ Wrote Nil w (w'.setCell ⟨w.heap.size + 1, 0, none⟩ (.slice ao m cap)) := by
  have n1 : (w.alloc (.cells (madeCells #[.int .i64 0, .int .i64 0, .int .i64 0] (n * 3)) 109)).heap.size = w.heap.size + 1 := Go.Deep.nblk_alloc _ _
  have n2 : ((w.alloc (.cells (madeCells #[.int .i64 0, .int .i64 0, .int .i64 0] (n * 3)) 109)).alloc (.cells #[.slice none 0 0, .int .i64 n, .slice none 0 0, .slice (some ⟨w.heap.size, 0, none⟩) n n] 83)).heap.size = w.heap.size + 2 := by rw [Go.Deep.nblk_alloc, n1]
  have b1 : w'.heap[w.heap.size + 1]? = some (.cells #[.slice none 0 0, .int .i64 n, .slice none 0 0, .slice (some ⟨w.heap.size, 0, none⟩) n n] 83 (0, 0)) := by
    rw [hgrow.block _ (by rw [n2]; omega) (by simp), ← n1, Go.Deep.blk_alloc_new]
  have b0 : w'.heap[w.heap.size]? = some (.cells (madeCells #[.int .i64 0, .int .i64 0, .int .i64 0] (n * 3)) 109 (0, 0)) := by
    rw [hgrow.block _ (by rw [n2]; omega) (by simp), Go.Deep.blk_alloc_lt _ _ _ (by rw [n1]; omega), Go.Deep.blk_alloc_new]
  rw [n2] at hown
  have hW : Wrote Nil w (w'.setCell ⟨w.heap.size + 1, 0, none⟩ (.slice ao m cap)) := ((((Wrote.refl Nil w).alloc _).alloc _).grown hgrow (fun k hk => nomatch hk)).setCell _ _ (fun h => by simp only at h; omega)
  obtain ⟨sa, cp, hv, _, _, hrow, hblk⟩ := own_rowAt hown
  simp only [Value.slice.injEq] at hv
  obtain ⟨rfl, _, rfl⟩ := hv
  have hk : ∀ b, b ≠ w.heap.size + 1 → (w'.setCell ⟨w.heap.size + 1, 0, none⟩ (.slice ao m cap)).heap[b]? = w'.heap[b]? := fun b hb => Go.Deep.blk_setCell_other _ _ _ _ hb
  refine ⟨by rw [blk_cell b1]; rfl, blk_frozen b1 0, ⟨?_, ?_, ?_, World.ownsRow_nil _ _ _ _, by simp [Value.ownBlock], ?_, by simp [newS], by simp [newS], ?_, ?_, ?_, wf, by omega⟩, hW⟩
  · rw [blk_setCell b1]
    simp [newS, hl]
  · have : RowAt .u32 (w'.setCell ⟨w.heap.size + 1, 0, none⟩ (.slice ao m cap)) ao m vs := hrow.wrote (S := One (w.heap.size + 1)) ((Wrote.refl _ w').setCell _ _ fun _ => rfl) (fun a ha e => by have := (hblk a ha).1; have e' : a.block = w.heap.size + 1 := e; omega)
    show RowAt _ _ _ vs.length vs
    rw [hl]
    exact this
  · intro a ha
    have := (hblk a ha).1
    exact ⟨by omega, by omega, by omega, by simp [Value.ownBlock]⟩
  · refine ⟨_, (hk _ (by omega)).trans b0, by simp [newS, size_madeCells], fun i hi => ?_⟩
    rw [newS_cnt]
    exact made_cnt n i (by simpa [newS] using hi)
  all_goals
    intro x hx
    simp [newS] at hx
    omega

set_option maxRecDepth 100000 in
set_option maxHeartbeats 1000000 in
theorem rnew_any {w : World} {sb : Option Addr} {m c n : Nat} {vs : List Int} (hv : RowAt .u32 w sb m vs) (wf : ∀ z ∈ vs, 0 ≤ z ∧ z < 4294967296) (hn : n ≤ 64) (hm : m ≤ 4096) :
    Calls Tryz.prog 11 #[.int .i64 n, .slice sb m c] w (RNewPost w w.heap.size (newS n vs)) := by
  obtain ⟨i0, hi, hz0, hz1, hz2⟩ := info_parts info_u32
  obtain ⟨i1, gi, gz0, gz1, gz2⟩ := info_parts info_cnt
  have hmk : ∀ w : World, (Instr.makeSlice 80 (.int .i64 (n : Int)) (.int .i64 (n : Int))).run Tryz.prog w = .ok (.slice (some ⟨w.heap.size, 0, none⟩) n n) (w.alloc (.cells (madeCells #[.int .i64 0, .int .i64 0, .int .i64 0] (n * 3)) 109)) := by
    intro w
    have h := Go.run_make (P := Tryz.prog) w 80 109 i1 _ Tryz.underlying80 gi gz0 .i64 .i64 n n (by omega) (by omega) (by rw [gz2]; omega) (by omega)
    rw [gz1] at h
    simp only [Int.toNat_natCast] at h
    exact h
  have hlen := hv.len
  have hnews := (hv.after (((Wrote.refl Nil w).alloc (.cells (madeCells #[.int .i64 0, .int .i64 0, .int .i64 0] (n * 3)) 109)).alloc (.cells #[.slice none 0 0, .int .i64 n, .slice none 0 0, .slice (some ⟨w.heap.size, 0, none⟩) n n] 83))).news
  have hempty := hv.empty
  have H := Lib.hid wf
  clear hv wf
  go_enter Tryz.func11, Tryz.ntmps11
  go_wp2_with (at_builtin; refine wpList_append_fresh rfl _ _ 41 rfl 84 i0 (.int .u32 0) 4 Tryz.underlying41 hi hz0 hz1 hz2 rfl rfl sb m c (vs.map (Value.int .u32)) rfl hempty (by simpa using hlen) hnews (by intro u hu; simp only [List.mem_map] at hu; obtain ⟨z, _, rfl⟩ := hu; rfl) (by unfold maxLen; omega) (by omega) ?_; intro ao cap w' hown hgrow; obtain ⟨e0, e1, hR, hW⟩ := rnew_made hlen H.out hown hgrow; have HR := Lib.hid (And.intro hR hW); clear hown hgrow hR hW hnews hempty)
  go_ret
  unfold RNewPost
  exact ⟨_, rfl, ⟨_, _, _, _, HR.out.1⟩, HR.out.2⟩
end Go.Proofs.YteacdcdjdbobnaaGreat
