/- How a slice of records lies in the heap: a list of things, each of which is a fixed number of cells; such a slice that came in, and one of the call's own; no program is named. -/
import Derived.WalkKit
import Derived.Below
import Derived.OpenShut
import Derived.OwnWalk
import Derived.Laws.AppendOwn
import Derived.Laws.AppendOwnNone
import Derived.Laws.LoneSync
import Derived.Deep.OwnRows
import Derived.Deep.RegionLaw
import Derived.Deep.QuietTactic
import Derived.Deep.Slices
import Derived.Deep.Fields
import Derived.ChangeSame
import Derived.WideShapes
namespace Go.Proofs.YtkmikkjjnbikdaaGreat
open Go.RowKit Go.Deep
set_option linter.unusedVariables false

/-- Of the blocks that were there only those in S may have turned; no block has gone. -/
structure Wrote (S : Nat → Prop) (w w' : World) : Prop where
  os : w'.os = w.os
  tape : w'.tape = w.tape
  output : w'.output = w.output
  size : w.heap.size ≤ w'.heap.size
  block : ∀ k, k < w.heap.size → ¬ S k → w'.heap[k]? = w.heap[k]?

/-- no old block at all -/
def Nil (_ : Nat) : Prop := False
/-- one block -/
def One (b : Nat) (k : Nat) : Prop := k = b

namespace Wrote
variable {S T : Nat → Prop} {w w' w'' : World}
theorem refl (S : Nat → Prop) (w : World) : Wrote S w w := ⟨rfl, rfl, rfl, Nat.le_refl _, fun _ _ _ => rfl⟩
theorem trans (h : Wrote S w w') (k : Wrote T w' w'') (hs : ∀ b, b < w.heap.size → T b → S b) : Wrote S w w'' :=
  ⟨k.os.trans h.os, k.tape.trans h.tape, k.output.trans h.output, Nat.le_trans h.size k.size,
    fun b hb hn => (k.block b (Nat.lt_of_lt_of_le hb h.size) (fun ht => hn (hs b hb ht))).trans (h.block b hb hn)⟩
theorem mono (h : Wrote S w w') (hs : ∀ b, b < w.heap.size → S b → T b) : Wrote T w w' :=
  ⟨h.os, h.tape, h.output, h.size, fun b hb hn => h.block b hb (fun x => hn (hs b hb x))⟩
theorem drew (h : Wrote S w w') : Wrote S w w'.drew := ⟨h.os, h.tape, h.output, h.size, h.block⟩
theorem drewN (h : Wrote S w w') (n : Nat) : Wrote S w (w'.drewN n) := ⟨h.os, h.tape, h.output, h.size, h.block⟩
theorem alloc (h : Wrote S w w') (o : Obj) : Wrote S w (w'.alloc o) :=
  h.trans (T := Nil) ⟨rfl, rfl, rfl, by rw [nblk_alloc]; omega, fun k hk _ => blk_alloc_lt _ _ _ hk⟩ (fun _ _ x => x.elim)
theorem setCell (h : Wrote S w w') (a : Addr) (v : Value) (hs : a.block < w.heap.size → S a.block) : Wrote S w (w'.setCell a v) :=
  h.trans (T := One a.block) ⟨rfl, rfl, rfl, by rw [nblk_setCell]; exact Nat.le_refl _, fun k hk hn => blk_setCell_other _ _ _ _ hn⟩ (fun b hb x => by cases x; exact hs hb)
theorem grown {row : Option Nat} (h : Wrote S w w') (hg : w'.grownBy w'' row) (hr : ∀ k, row = some k → k < w.heap.size → S k) : Wrote S w w'' :=
  ⟨hg.os.trans h.os, hg.tape.trans h.tape, hg.output.trans h.output, Nat.le_trans h.size hg.size,
    fun b hb hn => (hg.block b (Nat.lt_of_lt_of_le hb h.size) (fun e => hn (hr b e.symm hb))).trans (h.block b hb hn)⟩
/-- nothing that was there has turned: the frame of a law -/
theorem below {B : Nat} (h : Wrote S w w') (hB : B ≤ w.heap.size) (hs : ∀ b, b < B → ¬ S b) : Below B w w' :=
  ⟨h.os, h.tape, h.output, h.size, fun k hk => h.block k (Nat.lt_of_lt_of_le hk hB) (hs k hk)⟩
theorem ofBelow (h : Below w.heap.size w w') : Wrote Nil w w' := ⟨h.os, h.tape, h.output, h.size, fun k hk _ => h.block k hk⟩
/-- behind what has left old memory alone: a write to a block that is new -/
theorem one {b : Nat} (h : Wrote Nil w w') (k : Wrote (One b) w' w'') (hb : w.heap.size ≤ b) : Wrote Nil w w'' := h.trans k fun j hj x => by cases x; omega
theorem nil (h : Wrote Nil w w') (k : Wrote Nil w' w'') : Wrote Nil w w'' := h.trans k fun _ _ x => x
theorem cell (h : Wrote S w w') {a : Addr} {v : Value} (hc : w.cell? a = some v) (hs : ¬ S a.block) : w'.cell? a = some v :=
  (World.cell?_of_block (w := w) (h.block _ (World.block_lt_of_cell? w _ hc) hs)).trans hc
theorem old (h : Wrote Nil w w') {a : Addr} {v : Value} (hc : w.cell? a = some v) : w'.cell? a = some v := h.cell hc id
theorem law (h : Wrote Nil w w') : Below w.heap.size w w' := h.below (Nat.le_refl _) fun _ _ => id
end Wrote

/-- the cells of a known block -/
theorem blk_cell {w : World} {b : Nat} {cs : Array Value} {t : TypeId} (h : w.heap[b]? = some (.cells cs t (0, 0))) (i : Nat) : w.cell? ⟨b, i, none⟩ = cs[i]? := by simp [World.cell?, h]
theorem blk_frozen {w : World} {b : Nat} {cs : Array Value} {t : TypeId} (h : w.heap[b]? = some (.cells cs t (0, 0))) (i : Nat) : w.frozen? ⟨b, i, none⟩ = false := by simp [World.frozen?, h]
theorem blk_lt {w : World} {b : Nat} {o : Obj} (h : w.heap[b]? = some o) : b < w.heap.size := (Array.getElem?_eq_some_iff.1 h).1
theorem blk_setCell {w : World} {b : Nat} {cs : Array Value} {t : TypeId} (h : w.heap[b]? = some (.cells cs t (0, 0))) (i : Nat) (v : Value) :
    (w.setCell ⟨b, i, none⟩ v).heap[b]? = some (.cells (cs.setIfInBounds i v) t (0, 0)) := by
  simp [World.setCell, Array.getElem?_modify, h]

theorem ownsRow_keep {w w' : World} {base : Nat} {e : TypeId} {size : Nat} {v : Value} {n : Nat} {xs : List Value} (h : w.ownsRow base e size v n xs)
    (hb : ∀ k, v.ownBlock = some k → w'.heap[k]? = w.heap[k]?) : w'.ownsRow base e size v n xs := by
  refine ⟨h.1, ?_⟩
  rcases h.2 with hn | ⟨g, cap, cur, rfl, hbb, hg, rest⟩
  · exact .inl hn
  · exact .inr ⟨g, cap, cur, rfl, hbb, (hb g rfl).trans hg, rest⟩

theorem ownsRow_base {w : World} {base base' : Nat} {e : TypeId} {size : Nat} {v : Value} {n : Nat} {xs : List Value} (h : w.ownsRow base e size v n xs) (hb : base' ≤ base) : w.ownsRow base' e size v n xs := by
  refine ⟨h.1, ?_⟩
  rcases h.2 with hn | ⟨g, cap, cur, rfl, hbb, hg, rest⟩
  · exact .inl hn
  · exact .inr ⟨g, cap, cur, rfl, by omega, hg, rest⟩

/-- the cell of an owned row of one-cell elements, whatever the value's form -/
theorem ownsRow_cell {w : World} {base : Nat} {e : TypeId} {ao : Option Addr} {n cap : Nat} {xs : List Value} (h : w.ownsRow base e 1 (.slice ao n cap) n xs) {i : Nat} (hi : i < n) :
    ∃ g, ao = some ⟨g, 0, none⟩ ∧ w.cell? ⟨g, i, none⟩ = xs[i]? ∧ w.frozen? ⟨g, i, none⟩ = false := by
  rcases h.2 with ⟨hn, h0⟩ | ⟨g, cap', cur, hv, hbb, hg, hnc, hcm, hcs, ht⟩
  · omega
  · simp only [Value.slice.injEq] at hv
    obtain ⟨rfl, _, rfl⟩ := hv
    refine ⟨g, rfl, ?_, by simp [World.frozen?, hg]⟩
    rw [← ht]
    simp [World.cell?, hg, hi]

/-- append to nil, of whatever row of one-cell elements, as a step of a region that draws: the value owns the same cells, in new memory (or is nil) -/
theorem step_append_fresh {P : Program} {ops : Array Oper} {o : Oper} {a : Act} {w : World} {K : Act → World → Prop} {Q : Exit → Act → World → Prop} {E : Prop}
    (hg : o.guard = none) (s x : Operand) (t : TypeId) (hop : o.op = Op.call { callee := Callee.builtin Builtin.append, args := #[s, x], argTypes := #[t, t] })
    (e : TypeId) (i : TypeInfo) (z : Value) (bytes : Nat) (h1 : P.underlying t = some (.slice e)) (h2 : P.info? e = some i) (h3 : i.zero = some z) (h4 : i.size = 1) (h5 : i.bytes = bytes) (h6 : z.cells.size = 1)
    (hs : a.eval s = .slice none 0 0) (sa : Option Addr) (m c : Nat) (news : List Value) (hx : a.eval x = .slice sa m c) (hnone : sa = none → m = 0) (hn : news.length = m)
    (hc : ∀ b, sa = some b → ∀ j u, news[j]? = some u → w.cell? (b.add j) = some u) (h1c : ∀ u ∈ news, u.oneCell' = true)
    (b1 : m ≤ maxLen) (b2 : m * bytes ≤ 140737488355328)
    (hK : ∀ ao cap w', w'.ownsRow w.heap.size e 1 (.slice ao m cap) m news → w.grownBy w' none → K (a.put o.dst (.slice ao m cap)) w') :
    if Region.wanted o (yielded ops a.tmps) = true then Oper.wp P o a w K Q else E := by
  have hw : Region.wanted o (yielded ops a.tmps) = true := by simp [Region.wanted, hg]
  rw [if_pos hw]
  have key : ∃ ao cap w', (Builtin.append_ #[t, t] o.type #[.slice none 0 0, .slice sa m c]).run P w = .ok (.slice ao m cap) w' ∧ w'.ownsRow w.heap.size e 1 (.slice ao m cap) m news ∧ w.grownBy w' none := by
    cases sa with
    | none =>
      obtain rfl := hnone rfl
      obtain rfl : news = [] := List.eq_nil_of_length_eq_zero hn
      refine ⟨none, 0, w, ?_, World.ownsRow_nil w _ e 1, ⟨rfl, rfl, rfl, Nat.le_refl _, fun _ _ _ => rfl⟩⟩
      simp [Builtin.append_, run_underlying h1, sizeOf, typeInfo, h2, Builtin.lenOf, Builtin.firstCells]
    | some b =>
      obtain ⟨v', w', hrun, r1, r2, _⟩ := run_append_own (P := P) w w.heap.size t o.type e i z 1 bytes h1 h2 h3 h4 h5 h6 (by omega) (.slice none 0 0) 0 [] (World.ownsRow_nil w _ e 1) b m c news (by omega) (hc b rfl) h1c (by omega) (by simpa using b2) (Nat.le_refl _)
      simp only [Nat.zero_add, List.nil_append] at r1
      have hf : ∃ ao cap, v' = .slice ao m cap := by
        rcases r1.2 with ⟨rfl, rfl⟩ | ⟨g, cap, cur, rfl, _⟩
        · exact ⟨_, _, rfl⟩
        · exact ⟨_, _, rfl⟩
      obtain ⟨ao, cap, rfl⟩ := hf
      exact ⟨ao, cap, w', hrun, r1, r2⟩
  obtain ⟨ao, cap, w', hrun, r1, r2⟩ := key
  unfold Oper.wp
  simp [execOp, hop, resolve, invoke, builtin, hs, hx, hrun, Result.andThen]
  exact hK ao cap w' r1 r2

/-- sync/atomic.SwapT: the number is stored; what was there is handed back -/
theorem run_call_swap {P : Program} {f : FuncId} {fn : Func} (hf : P.funcs[f]? = some fn) (hname : (fn.name == "runtime.NumGoroutine") = false) (hb : fn.body.isNone = true) (hn : Extern.findNext fn = none) (k : IntKind)
    (he : Extern.find fn = some (Extern.Atomic.swapT (.int k))) {a : Addr} {x y : Int} {w : World} (hc : w.cell? a = some (.int k x)) (hz : w.frozen? a = false) :
    (callFunc f #[.pointer (some a), .int k y]).run P w = .ok (.value (.int k x)) (w.setCell a (.int k y)) := by
  rw [run_callFunc_extern hf hname hb hn he]
  change (Sem.run P (do
    let a' ← asAddr (.pointer (some a))
    let old ← Extern.Atomic.read (.int k) a'
    store a' (.int k y) .atomic
    pure old) w).andThen _ = _
  simp [Extern.Atomic.read, asAddr, hc, hz, run_store P w a (.int k y) .atomic rfl, Result.andThen]

/-! numbers that fit their kind -/
theorem u32_bd {n : Int} (h : (Lit.int .u32 n).wf = true) : 0 ≤ n ∧ n < 4294967296 := by
  have := bounds_u32 h; omega
theorem u8_bd {n : Int} (h : (Lit.int .u8 n).wf = true) : 0 ≤ n ∧ n < 256 := by
  have := bounds_u8 h; omega
theorem u16_bd {n : Int} (h : (Lit.int .u16 n).wf = true) : 0 ≤ n ∧ n < 65536 := by
  have := bounds_u16 h; omega
theorem i64_bd {n : Int} (h : (Lit.int .i64 n).wf = true) : -9223372036854775808 ≤ n ∧ n ≤ 9223372036854775807 := by
  have := bounds_i64 h; omega
end Go.Proofs.YtkmikkjjnbikdaaGreat
namespace Go.Proofs.YtkmikkjjnbikdaaGreat
open Go.ChangeShapes Go.WideShapes Go.Deep Go.RowKit
set_option linter.unusedVariables false

/-- the struct's fields are one cell each, integers of these kinds -/
def flatInts (P : Program) (fs : Array Field) (ks : List IntKind) : Bool :=
  fs.size == ks.length && oneCellFields P fs && (List.range fs.size).all fun j => match fs[j]?, ks[j]? with
    | some f, some k => (match P.underlying f.type with
      | some (.int k') => decide (k' = k)
      | _ => false)
    | _, _ => false

/-! lists of known length -/
theorem list1 {α : Type} {l : List α} (h : l.length = 1) : ∃ x0, l = [x0] := by
  match l, h with
  | [x0], _ => exact ⟨x0, rfl⟩
theorem list2 {α : Type} {l : List α} (h : l.length = 2) : ∃ x0 x1, l = [x0, x1] := by
  match l, h with
  | [x0, x1], _ => exact ⟨x0, x1, rfl⟩
theorem list3 {α : Type} {l : List α} (h : l.length = 3) : ∃ x0 x1 x2, l = [x0, x1, x2] := by
  match l, h with
  | [x0, x1, x2], _ => exact ⟨x0, x1, x2, rfl⟩
theorem list4 {α : Type} {l : List α} (h : l.length = 4) : ∃ x0 x1 x2 x3, l = [x0, x1, x2, x3] := by
  match l, h with
  | [x0, x1, x2, x3], _ => exact ⟨x0, x1, x2, x3, rfl⟩
theorem list5 {α : Type} {l : List α} (h : l.length = 5) : ∃ x0 x1 x2 x3 x4, l = [x0, x1, x2, x3, x4] := by
  match l, h with
  | [x0, x1, x2, x3, x4], _ => exact ⟨x0, x1, x2, x3, x4, rfl⟩
theorem list6 {α : Type} {l : List α} (h : l.length = 6) : ∃ x0 x1 x2 x3 x4 x5, l = [x0, x1, x2, x3, x4, x5] := by
  match l, h with
  | [x0, x1, x2, x3, x4, x5], _ => exact ⟨x0, x1, x2, x3, x4, x5, rfl⟩
theorem list7 {α : Type} {l : List α} (h : l.length = 7) : ∃ x0 x1 x2 x3 x4 x5 x6, l = [x0, x1, x2, x3, x4, x5, x6] := by
  match l, h with
  | [x0, x1, x2, x3, x4, x5, x6], _ => exact ⟨x0, x1, x2, x3, x4, x5, x6, rfl⟩
theorem list8 {α : Type} {l : List α} (h : l.length = 8) : ∃ x0 x1 x2 x3 x4 x5 x6 x7, l = [x0, x1, x2, x3, x4, x5, x6, x7] := by
  match l, h with
  | [x0, x1, x2, x3, x4, x5, x6, x7], _ => exact ⟨x0, x1, x2, x3, x4, x5, x6, x7, rfl⟩

/-- a row of numbers of one kind that lies in the world, or nil -/
structure RowAt (k : IntKind) (w : World) (sa : Option Addr) (m : Nat) (hs : List Int) : Prop where
  len : hs.length = m
  empty : sa = none → m = 0
  cell : ∀ b, sa = some b → ∀ j, j < m → w.cell? (b.add j) = some (.int k (hs.getD j 0))
theorem RowAt.news {k : IntKind} {w : World} {sa : Option Addr} {m : Nat} {hs : List Int} (h : RowAt k w sa m hs) :
    ∀ b, sa = some b → ∀ j u, (hs.map (Value.int k))[j]? = some u → w.cell? (b.add j) = some u := by
  intro b hb j u hu
  simp only [List.getElem?_map, Option.map_eq_some_iff] at hu
  obtain ⟨z, hz, rfl⟩ := hu
  have hj : j < hs.length := (List.getElem?_eq_some_iff.1 hz).1
  rw [h.cell b hb j (by rw [← h.len]; exact hj), List.getD_eq_getElem?_getD, hz]
  rfl
theorem RowAt.wrote {k : IntKind} {w w' : World} {sa : Option Addr} {m : Nat} {hs : List Int} (h : RowAt k w sa m hs) {S : Nat → Prop} (hw : Wrote S w w') (hs' : ∀ b, sa = some b → ¬ S b.block) : RowAt k w' sa m hs := by
  refine ⟨h.len, h.empty, fun b hb j hj => ?_⟩
  have hc := h.cell b hb j hj
  have hbl : (b.add j).block = b.block := by unfold Addr.add; split <;> rfl
  have hlt : (b.add j).block < w.heap.size := World.block_lt_of_cell? w _ hc
  rw [World.cell?_of_block (w := w) (hw.block _ hlt (by rw [hbl]; exact hs' b hb)), hc]
theorem RowAt.after {k : IntKind} {w w' : World} {sa : Option Addr} {m : Nat} {hs : List Int} (h : RowAt k w sa m hs) (hw : Wrote Nil w w') : RowAt k w' sa m hs := h.wrote hw fun _ _ => id

theorem spot_of_cell {w : World} {a : Addr} {v : Value} (h : w.cell? a = some v) : a = ⟨a.block, a.off, none⟩ := by
  obtain ⟨e, n, _, _, hs⟩ := World.shape?_of_cell? h
  cases a
  simp_all
/-- a row with an element: where it begins -/
theorem RowAt.at {k : IntKind} {w : World} {sa : Option Addr} {m : Nat} {hs : List Int} (h : RowAt k w sa m hs) :
    m = 0 ∨ ∃ b o, sa = some ⟨b, o, none⟩ ∧ ∀ j, j < m → w.cell? ⟨b, o + j, none⟩ = some (.int k (hs.getD j 0)) := by
  rcases Nat.eq_zero_or_pos m with h0 | h0
  · exact .inl h0
  · cases sa with
    | none => exact .inl (h.empty rfl)
    | some a =>
      have hc := h.cell a rfl 0 h0
      have ha : a.add 0 = a := by simp [Addr.add]
      rw [ha] at hc
      have hsp := spot_of_cell hc
      refine .inr ⟨a.block, a.off, by rw [← hsp], fun j hj => ?_⟩
      have hcj := h.cell a rfl j hj
      rw [hsp, Go.Addr.add_lit] at hcj
      exact hcj

/-- a store into a row -/
theorem RowAt.set {k : IntKind} {w : World} {b o : Nat} {m : Nat} {hs : List Int} (h : RowAt k w (some ⟨b, o, none⟩) m hs) (j : Nat) (hj : j < m) (v : Int) :
    RowAt k (w.setCell ⟨b, o + j, none⟩ (.int k v)) (some ⟨b, o, none⟩) m (hs.set j v) := by
  refine ⟨by simpa using h.len, (fun h => nomatch h), fun a ha i hi => ?_⟩
  obtain rfl : ⟨b, o, none⟩ = a := by simpa using ha
  have hc := h.cell _ rfl
  rw [Go.Addr.add_lit]
  by_cases e : i = j
  · subst e
    have hi' := hc i hi
    rw [Go.Addr.add_lit] at hi'
    rw [World.cell?_setCell_same _ _ _ hi']
    simp [h.len, hi]
  · rw [World.cell?_setCell_other _ _ _ _ (by intro h; simp only [Addr.mk.injEq] at h; omega)]
    have hi' := hc i hi
    rw [Go.Addr.add_lit] at hi'
    rw [hi']
    simp [Ne.symm e]

theorem own_row {k : IntKind} {e : TypeId} {w : World} {base : Nat} {v : Value} {n : Nat} {zs : List Int} (h : w.ownsRow base e 1 v n (zs.map (Value.int k))) (hn : 0 < n) :
    ∃ g cap, v = .slice (some ⟨g, 0, none⟩) n cap ∧ n ≤ cap ∧ base ≤ g ∧ g < w.heap.size ∧ RowAt k w (some ⟨g, 0, none⟩) n zs ∧ ∀ j, w.frozen? ⟨g, j, none⟩ = false := by
  have hl : zs.length = n := by have := h.1; simpa using this
  rcases h.2 with ⟨_, h0⟩ | ⟨g, cap, cur, rfl, hb, hg, hnc, hcm, hcs, ht⟩
  · omega
  · refine ⟨g, cap, rfl, hnc, hb, blk_lt hg, ⟨hl, (fun h => nomatch h), fun a ha j hj => ?_⟩, fun j => blk_frozen hg j⟩
    obtain rfl : ⟨g, 0, none⟩ = a := by simpa using ha
    rw [Go.Addr.add_lit, Nat.zero_add, blk_cell hg]
    have h2 : (cur.toList.take (n * 1))[j]? = (zs.map (Value.int k))[j]? := by rw [ht]
    rw [List.getElem?_take_of_lt (by omega)] at h2
    rw [← Array.getElem?_toList, h2]
    simp [hl, hj]

/-- append of a row of numbers (or nil) onto a row of the call's own -/
theorem wpList_append_row {P : Program} {w : World} {ops : Array Oper} {rest : List Oper} {o : Oper} {a : Act} {Q : Exit → Act → World → Prop} (hgd : o.guard = none) (s x : Operand) (t : TypeId)
    (ho : o.op = .call { callee := .builtin .append, args := #[s, x], argTypes := #[t, t] })
    (base : Nat) (e : TypeId) (i : TypeInfo) (z : Value) (bytes : Nat) (ht : P.underlying t = some (.slice e)) (hi : P.info? e = some i) (hz : i.zero = some z)
    (hsize : i.size = 1) (hby : i.bytes = bytes) (hzs : z.cells.size = 1)
    (k : IntKind) (v : Value) (n : Nat) (ys : List Int) (hs : a.eval s = v) (hown : w.ownsRow base e 1 v n (ys.map (Value.int k)))
    (sa : Option Addr) (m c : Nat) (zs : List Int) (hx : a.eval x = .slice sa m c) (hr : RowAt k w sa m zs) (hc : sa = none → c = 0)
    (h63 : n + m ≤ maxLen) (hbytes : (n + m) * bytes ≤ 140737488355328) (hbase : base ≤ w.heap.size)
    (h : ∀ v' w', w'.ownsRow base e 1 v' (n + m) ((ys ++ zs).map (Value.int k)) → w.grownBy w' v.ownBlock → wpList P ops Q rest (a.put o.dst v') w') : wpList P ops Q (o :: rest) a w := by
  cases sa with
  | none =>
    obtain rfl := hr.empty rfl
    obtain rfl := hc rfl
    obtain rfl : zs = [] := List.eq_nil_of_length_eq_zero hr.len
    refine wpList_append_own_none hgd s x t ho base e i 1 ht hi v n _ hs hown hx ?_
    exact h v w (by simpa using hown) ⟨rfl, rfl, rfl, Nat.le_refl _, fun _ _ _ => rfl⟩
  | some ad =>
    refine wpList_append_own w hgd s x t ho base e i z 1 bytes ht hi hz hsize hby hzs (by omega) v n _ hs hown ad m c (zs.map (Value.int k)) hx (by simpa using hr.len) (hr.news ad rfl) ?_ h63 hbytes hbase ?_
    · intro u hu
      simp only [List.mem_map] at hu
      obtain ⟨y, _, rfl⟩ := hu
      rfl
    · intro v' w' h1 h2 _
      exact h v' w' (by rw [List.map_append]; exact h1) h2

/-- what a row of the call's own is, read as a row of numbers -/
theorem own_rowAt {k : IntKind} {e : TypeId} {w : World} {base : Nat} {v : Value} {n : Nat} {zs : List Int} (h : w.ownsRow base e 1 v n (zs.map (Value.int k))) :
    ∃ sa cap, v = .slice sa n cap ∧ (n = 0 ∨ n ≤ cap) ∧ (sa = none → cap = 0) ∧ RowAt k w sa n zs ∧ (∀ b, sa = some b → base ≤ b.block ∧ b.block < w.heap.size ∧ b.off = 0 ∧ b.spot = none ∧ ∀ j, w.frozen? ⟨b.block, j, none⟩ = false) := by
  have hl : zs.length = n := by have := h.1; simpa using this
  rcases h.2 with ⟨rfl, rfl⟩ | ⟨g, cap, cur, rfl, hb, hg, hnc, hcm, hcs, ht⟩
  · exact ⟨none, 0, rfl, .inl rfl, fun _ => rfl, ⟨hl, fun _ => rfl, (fun b hb => nomatch hb)⟩, (fun b hb => nomatch hb)⟩
  · refine ⟨some ⟨g, 0, none⟩, cap, rfl, .inr hnc, (fun h => nomatch h), ⟨hl, (fun h => nomatch h), fun a ha j hj => ?_⟩, fun b hb' => ?_⟩
    · obtain rfl : ⟨g, 0, none⟩ = a := by simpa using ha
      rw [Go.Addr.add_lit, Nat.zero_add, blk_cell hg]
      have h2 : (cur.toList.take (n * 1))[j]? = (zs.map (Value.int k))[j]? := by rw [ht]
      rw [List.getElem?_take_of_lt (by omega)] at h2
      rw [← Array.getElem?_toList, h2]
      simp [hl, hj]
    · obtain rfl : ⟨g, 0, none⟩ = b := by simpa using hb'
      exact ⟨hb, blk_lt hg, rfl, rfl, fun j => blk_frozen hg j⟩

section
variable {H : Type} {enc : TypeId × Value → H} {P : Program} {w : World} {base : Nat} {spare : Nat → Bool} {held : Bool}

theorem flat_at {fs : Array Field} {ks : List IntKind} (h : flatInts P fs ks = true) {j : Nat} {k : IntKind} (hk : ks[j]? = some k) :
    ∃ f, fs[j]? = some f ∧ f.offset = j ∧ P.cellsOf f.type = 1 ∧ P.underlying f.type = some (.int k) := by
  simp only [flatInts, Bool.and_eq_true, beq_iff_eq] at h
  obtain ⟨⟨hn, hone⟩, hall⟩ := h
  have hj : j < fs.size := by rw [hn]; exact (List.getElem?_eq_some_iff.1 hk).1
  have h1 := List.all_eq_true.1 hall j (List.mem_range.2 hj)
  have hf : fs[j]? = some fs[j] := Array.getElem?_eq_getElem hj
  rw [hf, hk] at h1
  obtain ⟨ho, hc⟩ := hone_of hone j _ hf
  refine ⟨fs[j], hf, ho, hc, ?_⟩
  revert h1
  simp only
  split
  · rename_i k' hu
    intro h2
    rw [hu, of_decide_eq_true h2]
  · intro h2
    cases h2

theorem flat_size {fs : Array Field} {ks : List IntKind} (h : flatInts P fs ks = true) : fs.size = ks.length := by
  simp only [flatInts, Bool.and_eq_true, beq_iff_eq] at h
  exact h.1.1

/-- the cells of one such struct -/
theorem struct_ints {e : TypeId} {fs : Array Field} {ks : List IntKind} {fuel : Nat} {cs : List Value} {x : DataW H × List MemPlace} (he : P.underlying e = some (.struct fs)) (hfl : flatInts P fs ks = true)
    (h : DataW.trod enc P w base spare held fuel e cs = some x) (hl : cs.length = ks.length) :
    ∀ (j : Nat) (k : IntKind), ks[j]? = some k → ∃ z, cs[j]? = some (Value.int k z) ∧ (Lit.int k z).wf = true := by
  intro j k hk
  obtain ⟨ys, n, _, _, hlen, hyl, hf⟩ := DataW.trod_struct he h
  obtain ⟨f, hj, ho, hc, hu⟩ := flat_at hfl hk
  have h1 := hf j f hj
  have hjl : j < cs.length := by rw [hl]; exact (List.getElem?_eq_some_iff.1 hk).1
  have hjy : j < ys.length := by rw [hyl]; exact (Array.getElem?_eq_some_iff.1 hj).1
  have h2 : (cs.drop j).take 1 = [cs[j]] := by rw [List.drop_eq_getElem_cons hjl]; rfl
  rw [ho, hc, h2, List.getElem?_eq_getElem hjy] at h1
  obtain ⟨z, hz, _, hwf⟩ := DataW.trod_int hu h1
  refine ⟨z, ?_, hwf⟩
  rw [List.getElem?_eq_getElem hjl]
  simpa using hz

/-- an argument that is such a struct -/
theorem open_struct_ints {r : Reach} {b0 : Nat} {e : TypeId} {fs : Array Field} {ks : List IntKind} {v : Value} {d : DataW H} {p : List MemPlace} (he : P.underlying e = some (.struct fs)) (hfl : flatInts P fs ks = true) (hC : P.cellsOf e = ks.length)
    (hv : Value.okWide P w r b0 e v) (h : DataW.Trod enc P w base spare held e v d p) :
    ∃ cs : List Value, v = .agg cs.toArray ∧ cs.length = ks.length ∧ ∀ (j : Nat) (k : IntKind), ks[j]? = some k → ∃ z, cs[j]? = some (Value.int k z) ∧ (Lit.int k z).wf = true := by
  obtain ⟨⟨cs⟩, rfl, hsz⟩ := okWide_struct he hv
  have hl : cs.length = ks.length := by rw [← hC, ← hsz]; rfl
  obtain ⟨fuel, hf⟩ := h
  exact ⟨cs, rfl, hl, struct_ints he hfl (by simpa [Value.cells] using hf) hl⟩

/-- the number that a cell holds -/
def cellI (w : World) (a : Addr) : Int := match w.cell? a with
  | some v => intOf v
  | none => 0

/-- a row of such structs that lies in the world, or nil -/
structure Structs (w : World) (ks : List IntKind) (sa : Option Addr) (len : Nat) (Z : Nat → Nat → Int) : Prop where
  empty : sa = none → len = 0
  cell : ∀ a, sa = some a → ∀ i, i < len → ∀ (j : Nat) (k : IntKind), ks[j]? = some k → w.cell? (a.add (i * ks.length + j)) = some (.int k (Z i j)) ∧ (Lit.int k (Z i j)).wf = true

theorem Structs.at {w : World} {ks : List IntKind} {sa : Option Addr} {len : Nat} {Z : Nat → Nat → Int} (h : Structs w ks sa len Z) (hk : 0 < ks.length) :
    len = 0 ∨ ∃ b o, sa = some ⟨b, o, none⟩ ∧ ∀ i, i < len → ∀ (j : Nat) (k : IntKind), ks[j]? = some k → w.cell? ⟨b, o + (i * ks.length + j), none⟩ = some (.int k (Z i j)) ∧ (Lit.int k (Z i j)).wf = true := by
  rcases Nat.eq_zero_or_pos len with h0 | h0
  · exact .inl h0
  · cases sa with
    | none => exact .inl (h.empty rfl)
    | some a =>
      have hc := (h.cell a rfl 0 h0 0 _ (List.getElem?_eq_getElem hk)).1
      have ha : a.add (0 * ks.length + 0) = a := by simp [Addr.add]
      rw [ha] at hc
      have hsp := spot_of_cell hc
      refine .inr ⟨a.block, a.off, by rw [← hsp], fun i hi j k hj => ?_⟩
      have hcj := h.cell a rfl i hi j k hj
      rw [hsp, Go.Addr.add_lit] at hcj
      exact hcj

/-- an argument that is a slice of such structs -/
theorem open_slice_ints {t e : TypeId} {fs : Array Field} {ks : List IntKind} {sa : Option Addr} {len cap : Nat} {d : DataW H} {p : List MemPlace} (ht : P.underlying t = some (.slice e)) (he : P.underlying e = some (.struct fs))
    (hfl : flatInts P fs ks = true) (hC : P.cellsOf e = ks.length) (h : DataW.Trod enc P w base spare held t (.slice sa len cap) d p) :
    (len ≤ cap ∧ cap ≤ maxLen ∧ (sa = none → cap = 0)) ∧ ∃ Z, Structs w ks sa len Z := by
  obtain ⟨fuel, hf⟩ := h
  rcases open_slice ht hf with ⟨h0, _⟩ | ⟨a, len', cap', m, n, D, Pl, hcs, hb, hl, hm, hmm, hx, hi⟩
  · simp only [Value.cells, List.cons.injEq, Value.slice.injEq, and_true] at h0
    obtain ⟨rfl, rfl, rfl⟩ := h0
    exact ⟨⟨Nat.le_refl _, by unfold maxLen; omega, fun _ => rfl⟩, fun _ _ => 0, ⟨fun _ => rfl, (fun a ha => nomatch ha)⟩⟩
  · simp only [Value.cells, List.cons.injEq, Value.slice.injEq, and_true] at hcs
    obtain ⟨rfl, rfl, rfl⟩ := hcs
    refine ⟨⟨hl, hm, (fun h => nomatch h)⟩, fun i j => cellI w (a.add (i * ks.length + j)), ⟨(fun h => nomatch h), fun a' ha i him j k hk => ?_⟩⟩
    obtain rfl : a = a' := by simpa using ha
    have hlm : len ≤ m := by rw [hmm]; split <;> omega
    obtain ⟨cs', hc, ht'⟩ := hi i (by omega)
    rw [hC] at hc
    obtain ⟨_, hcl, hat⟩ := World.cells?_some hc
    obtain ⟨z, hz, hwf⟩ := struct_ints he hfl ht' hcl j k hk
    have hcell := hat j (List.getElem?_eq_some_iff.1 hk).1
    rw [Go.Deep.add_add, hz] at hcell
    have hZ : cellI w (a.add (i * ks.length + j)) = z := by unfold cellI; rw [hcell]; rfl
    exact ⟨by rw [hZ]; exact hcell, by rw [hZ]; exact hwf⟩

/-- an argument that is such a struct, its numbers in a list -/
theorem open_struct_list {r : Reach} {b0 : Nat} {e : TypeId} {fs : Array Field} {ks : List IntKind} {v : Value} {d : DataW H} {p : List MemPlace} (he : P.underlying e = some (.struct fs)) (hfl : flatInts P fs ks = true) (hC : P.cellsOf e = ks.length)
    (hv : Value.okWide P w r b0 e v) (h : DataW.Trod enc P w base spare held e v d p) :
    ∃ zs : List Int, v = .agg (List.zipWith Value.int ks zs).toArray ∧ zs.length = ks.length ∧ ∀ (j : Nat) (k : IntKind), ks[j]? = some k → (Lit.int k (zs.getD j 0)).wf = true := by
  obtain ⟨cs, rfl, hl, hc⟩ := open_struct_ints he hfl hC hv h
  refine ⟨cs.map intOf, ?_, by simpa using hl, fun j k hk => ?_⟩
  · congr 2
    apply List.ext_getElem?
    intro j
    rw [List.getElem?_zipWith]
    by_cases hj : j < ks.length
    · obtain ⟨z, hz, _⟩ := hc j ks[j] (List.getElem?_eq_getElem hj)
      simp [hz, List.getElem?_eq_getElem hj, intOf]
    · rw [List.getElem?_eq_none (by omega), List.getElem?_eq_none (by omega)]
  · obtain ⟨z, hz, hw⟩ := hc j k hk
    simpa [hz, intOf] using hw

/-- an argument that is a slice of integers -/
theorem open_slice_row {t e : TypeId} {k : IntKind} {sa : Option Addr} {len cap : Nat} {d : DataW H} {p : List MemPlace} (ht : P.underlying t = some (.slice e)) (he : P.underlying e = some (.int k)) (hC : P.cellsOf e = 1)
    (h : DataW.Trod enc P w base spare held t (.slice sa len cap) d p) :
    (len ≤ cap ∧ cap ≤ maxLen ∧ (sa = none → cap = 0)) ∧ ∃ zs, RowAt k w sa len zs ∧ ∀ z ∈ zs, (Lit.int k z).wf = true := by
  obtain ⟨fuel, hf⟩ := h
  rcases open_slice ht hf with ⟨h0, _⟩ | ⟨a, len', cap', m, n, D, Pl, hcs, hb, hl, hm, hmm, hx, hi⟩
  · simp only [Value.cells, List.cons.injEq, Value.slice.injEq, and_true] at h0
    obtain ⟨rfl, rfl, rfl⟩ := h0
    exact ⟨⟨Nat.le_refl _, by unfold maxLen; omega, fun _ => rfl⟩, [], ⟨rfl, fun _ => rfl, (fun a ha => nomatch ha)⟩, fun z hz => nomatch hz⟩
  · simp only [Value.cells, List.cons.injEq, Value.slice.injEq, and_true] at hcs
    obtain ⟨rfl, rfl, rfl⟩ := hcs
    have key : ∀ i, i < len → w.cell? (a.add i) = some (.int k (cellI w (a.add i))) ∧ (Lit.int k (cellI w (a.add i))).wf = true := by
      intro i hil
      have hlm : len ≤ m := by rw [hmm]; split <;> omega
      obtain ⟨cs', hc, ht'⟩ := hi i (by omega)
      rw [hC, Nat.mul_one] at hc
      obtain ⟨_, hcl, hat⟩ := World.cells?_some hc
      obtain ⟨z, rfl, _, hwf⟩ := DataW.trod_int he ht'
      have hcell := hat 0 (by omega)
      rw [Go.Deep.add_add] at hcell
      have hcell : w.cell? (a.add i) = some (.int k z) := hcell
      have hZ : cellI w (a.add i) = z := by unfold cellI; rw [hcell]; rfl
      rw [hZ]
      exact ⟨hcell, hwf⟩
    refine ⟨⟨hl, hm, (fun h => nomatch h)⟩, (List.range len).map fun i => cellI w (a.add i), ⟨by simp, (fun h => nomatch h), fun a' ha i him => ?_⟩, fun z hz => ?_⟩
    · obtain rfl : a = a' := by simpa using ha
      simp only [List.getD_eq_getElem?_getD, List.getElem?_map, List.getElem?_range him, Option.map_some, Option.getD_some]
      exact (key i him).1
    · simp only [List.mem_map, List.mem_range] at hz
      obtain ⟨i, hil, rfl⟩ := hz
      exact (key i hil).2

/-- the kind of a field of one cell: an integer or a truth (a truth's number is 1 or 0) -/
inductive FK
  | int (k : IntKind)
  | bool
def FK.val : FK → Int → Value
  | .int k, z => .int k z
  | .bool, z => .bool (decide (z = 1))
def FK.ok : FK → Int → Bool
  | .int k, z => (Lit.int k z).wf
  | .bool, _ => true
/-- the number of a cell's value -/
def numOf : Value → Int
  | .bool b => if b then 1 else 0
  | v => intOf v
def FK.fits (P : Program) (t : TypeId) : FK → Bool
  | .int k => (match P.underlying t with
    | some (.int k') => decide (k' = k)
    | _ => false)
  | .bool => (match P.underlying t with
    | some .bool => true
    | _ => false)
/-- the struct's fields are one cell each, of these kinds -/
def flatFK (P : Program) (fs : Array Field) (ks : List FK) : Bool :=
  fs.size == ks.length && oneCellFields P fs && (List.range fs.size).all fun j => match fs[j]?, ks[j]? with
    | some f, some k => k.fits P f.type
    | _, _ => false

theorem flatFK_at {fs : Array Field} {ks : List FK} (h : flatFK P fs ks = true) {j : Nat} {k : FK} (hk : ks[j]? = some k) :
    ∃ f, fs[j]? = some f ∧ f.offset = j ∧ P.cellsOf f.type = 1 ∧ k.fits P f.type = true := by
  simp only [flatFK, Bool.and_eq_true, beq_iff_eq] at h
  obtain ⟨⟨hn, hone⟩, hall⟩ := h
  have hj : j < fs.size := by rw [hn]; exact (List.getElem?_eq_some_iff.1 hk).1
  have h1 := List.all_eq_true.1 hall j (List.mem_range.2 hj)
  have hf : fs[j]? = some fs[j] := Array.getElem?_eq_getElem hj
  rw [hf, hk] at h1
  obtain ⟨ho, hc⟩ := hone_of hone j _ hf
  exact ⟨fs[j], hf, ho, hc, h1⟩

theorem cell_fk {k : FK} {t : TypeId} {fuel : Nat} {v : Value} {x : DataW H × List MemPlace} (hf : k.fits P t = true) (h : DataW.trod enc P w base spare held fuel t [v] = some x) : v = k.val (numOf v) ∧ k.ok (numOf v) = true := by
  cases k with
  | int k =>
    simp only [FK.fits] at hf
    split at hf
    · rename_i k' hu
      obtain rfl := of_decide_eq_true hf
      obtain ⟨z, hz, _, hw⟩ := DataW.trod_int hu h
      obtain rfl : v = .int k' z := by simpa using hz
      exact ⟨rfl, hw⟩
    · cases hf
  | bool =>
    simp only [FK.fits] at hf
    split at hf
    · rename_i hu
      obtain ⟨b, hb, _⟩ := DataW.trod_bool hu h
      obtain rfl : v = .bool b := by simpa using hb
      cases b <;> exact ⟨rfl, rfl⟩
    · cases hf

/-- the cells of one such struct -/
theorem struct_fk {e : TypeId} {fs : Array Field} {ks : List FK} {fuel : Nat} {cs : List Value} {x : DataW H × List MemPlace} (he : P.underlying e = some (.struct fs)) (hfl : flatFK P fs ks = true)
    (h : DataW.trod enc P w base spare held fuel e cs = some x) (hl : cs.length = ks.length) :
    ∀ (j : Nat) (k : FK), ks[j]? = some k → ∃ z, cs[j]? = some (k.val z) ∧ k.ok z = true := by
  intro j k hk
  obtain ⟨ys, n, _, _, hlen, hyl, hf⟩ := DataW.trod_struct he h
  obtain ⟨f, hj, ho, hc, hu⟩ := flatFK_at hfl hk
  have h1 := hf j f hj
  have hjl : j < cs.length := by rw [hl]; exact (List.getElem?_eq_some_iff.1 hk).1
  have hjy : j < ys.length := by rw [hyl]; exact (Array.getElem?_eq_some_iff.1 hj).1
  have h2 : (cs.drop j).take 1 = [cs[j]] := by rw [List.drop_eq_getElem_cons hjl]; rfl
  rw [ho, hc, h2, List.getElem?_eq_getElem hjy] at h1
  obtain ⟨h3, h4⟩ := cell_fk hu h1
  exact ⟨numOf cs[j], by rw [List.getElem?_eq_getElem hjl, ← h3], h4⟩

/-- an argument that is such a struct, its numbers in a list -/
theorem open_struct_fk {r : Reach} {b0 : Nat} {e : TypeId} {fs : Array Field} {ks : List FK} {v : Value} {d : DataW H} {p : List MemPlace} (he : P.underlying e = some (.struct fs)) (hfl : flatFK P fs ks = true) (hC : P.cellsOf e = ks.length)
    (hv : Value.okWide P w r b0 e v) (h : DataW.Trod enc P w base spare held e v d p) :
    ∃ zs : List Int, v = .agg (List.zipWith FK.val ks zs).toArray ∧ zs.length = ks.length ∧ ∀ (j : Nat) (k : FK), ks[j]? = some k → k.ok (zs.getD j 0) = true := by
  obtain ⟨⟨cs⟩, rfl, hsz⟩ := okWide_struct he hv
  have hl : cs.length = ks.length := by rw [← hC, ← hsz]; rfl
  obtain ⟨fuel, hf⟩ := h
  have hc := struct_fk he hfl (by simpa [Value.cells] using hf) hl
  have hn : ∀ (k : FK) (z : Int), k.ok z = true → k.val (numOf (k.val z)) = k.val z ∧ k.ok (numOf (k.val z)) = true := by
    intro k z hz
    cases k with
    | int k => exact ⟨rfl, hz⟩
    | bool => by_cases h : z = 1 <;> simp [FK.val, FK.ok, numOf, h]
  refine ⟨cs.map numOf, ?_, by simpa using hl, fun j k hk => ?_⟩
  · congr 2
    apply List.ext_getElem?
    intro j
    rw [List.getElem?_zipWith]
    by_cases hj : j < ks.length
    · obtain ⟨z, hz, hok⟩ := hc j ks[j] (List.getElem?_eq_getElem hj)
      simp only [List.getElem?_map, hz, List.getElem?_eq_getElem hj, Option.map_some]
      rw [(hn _ _ hok).1]
    · rw [List.getElem?_eq_none (by omega), List.getElem?_eq_none (by omega)]
  · obtain ⟨z, hz, hw⟩ := hc j k hk
    have h2 := (hn _ _ hw).2
    simpa [hz] using h2

/-- a row of such structs that lies in the world, or nil -/
structure StructsK (w : World) (ks : List FK) (sa : Option Addr) (len : Nat) (Z : Nat → Nat → Int) : Prop where
  empty : sa = none → len = 0
  cell : ∀ a, sa = some a → ∀ i, i < len → ∀ (j : Nat) (k : FK), ks[j]? = some k → w.cell? (a.add (i * ks.length + j)) = some (k.val (Z i j)) ∧ k.ok (Z i j) = true

theorem StructsK.at {w : World} {ks : List FK} {sa : Option Addr} {len : Nat} {Z : Nat → Nat → Int} (h : StructsK w ks sa len Z) (hk : 0 < ks.length) :
    len = 0 ∨ ∃ b o, sa = some ⟨b, o, none⟩ ∧ ∀ i, i < len → ∀ (j : Nat) (k : FK), ks[j]? = some k → w.cell? ⟨b, o + (i * ks.length + j), none⟩ = some (k.val (Z i j)) ∧ k.ok (Z i j) = true := by
  rcases Nat.eq_zero_or_pos len with h0 | h0
  · exact .inl h0
  · cases sa with
    | none => exact .inl (h.empty rfl)
    | some a =>
      have hc := (h.cell a rfl 0 h0 0 _ (List.getElem?_eq_getElem hk)).1
      have ha : a.add (0 * ks.length + 0) = a := by simp [Addr.add]
      rw [ha] at hc
      have hsp := spot_of_cell hc
      refine .inr ⟨a.block, a.off, by rw [← hsp], fun i hi j k hj => ?_⟩
      have hcj := h.cell a rfl i hi j k hj
      rw [hsp, Go.Addr.add_lit] at hcj
      exact hcj

def cellN (w : World) (a : Addr) : Int := match w.cell? a with
  | some v => numOf v
  | none => 0

/-- an argument that is a slice of such structs -/
theorem open_slice_fk {t e : TypeId} {fs : Array Field} {ks : List FK} {sa : Option Addr} {len cap : Nat} {d : DataW H} {p : List MemPlace} (ht : P.underlying t = some (.slice e)) (he : P.underlying e = some (.struct fs))
    (hfl : flatFK P fs ks = true) (hC : P.cellsOf e = ks.length) (h : DataW.Trod enc P w base spare held t (.slice sa len cap) d p) :
    (len ≤ cap ∧ cap ≤ maxLen ∧ (sa = none → cap = 0)) ∧ ∃ Z, StructsK w ks sa len Z := by
  obtain ⟨fuel, hf⟩ := h
  rcases open_slice ht hf with ⟨h0, _⟩ | ⟨a, len', cap', m, n, D, Pl, hcs, hb, hl, hm, hmm, hx, hi⟩
  · simp only [Value.cells, List.cons.injEq, Value.slice.injEq, and_true] at h0
    obtain ⟨rfl, rfl, rfl⟩ := h0
    exact ⟨⟨Nat.le_refl _, by unfold maxLen; omega, fun _ => rfl⟩, fun _ _ => 0, ⟨fun _ => rfl, (fun a ha => nomatch ha)⟩⟩
  · simp only [Value.cells, List.cons.injEq, Value.slice.injEq, and_true] at hcs
    obtain ⟨rfl, rfl, rfl⟩ := hcs
    refine ⟨⟨hl, hm, (fun h => nomatch h)⟩, fun i j => cellN w (a.add (i * ks.length + j)), ⟨(fun h => nomatch h), fun a' ha i him j k hk => ?_⟩⟩
    obtain rfl : a = a' := by simpa using ha
    have hlm : len ≤ m := by rw [hmm]; split <;> omega
    obtain ⟨cs', hc, ht'⟩ := hi i (by omega)
    rw [hC] at hc
    obtain ⟨_, hcl, hat⟩ := World.cells?_some hc
    obtain ⟨z, hz, hwf⟩ := struct_fk he hfl ht' hcl j k hk
    have hcell := hat j (List.getElem?_eq_some_iff.1 hk).1
    rw [Go.Deep.add_add, hz] at hcell
    have hZ : cellN w (a.add (i * ks.length + j)) = numOf (k.val z) := by unfold cellN; rw [hcell]
    have h2 : k.val (numOf (k.val z)) = k.val z ∧ k.ok (numOf (k.val z)) = true := by
      cases k with
      | int k => exact ⟨rfl, hwf⟩
      | bool => by_cases h : z = 1 <;> simp [FK.val, FK.ok, numOf, h]
    exact ⟨by rw [hZ, h2.1]; exact hcell, by rw [hZ]; exact h2.2⟩
end
end Go.Proofs.YtkmikkjjnbikdaaGreat
namespace Go.Proofs.YtkmikkjjnbikdaaGreat
open Go.ChangeShapes Go.WideShapes Go.Deep Go.RowKit
set_option linter.unusedVariables false

/-- the records D lie one behind the other, each of s cells (or nil) -/
structure RecsAt {α : Type} (f : α → List Value) (s : Nat) (w : World) (sa : Option Addr) (n : Nat) (D : List α) : Prop where
  len : D.length = n
  empty : sa = none → n = 0
  cell : ∀ b, sa = some b → ∀ (k : Nat) (x : α), D[k]? = some x → ∀ (j : Nat) (u : Value), (f x)[j]? = some u → w.cell? (b.add (k * s + j)) = some u

section
variable {α : Type} {f : α → List Value} {s : Nat}
theorem RecsAt.wrote {w w' : World} {sa : Option Addr} {n : Nat} {D : List α} (h : RecsAt f s w sa n D) {S : Nat → Prop} (hw : Wrote S w w') (hs' : ∀ b, sa = some b → ¬ S b.block) : RecsAt f s w' sa n D := by
  refine ⟨h.len, h.empty, fun b hb k x hx j u hu => ?_⟩
  have hc := h.cell b hb k x hx j u hu
  have hbl : (b.add (k * s + j)).block = b.block := by unfold Addr.add; split <;> rfl
  exact hw.cell hc (by rw [hbl]; exact hs' b hb)
theorem RecsAt.after {w w' : World} {sa : Option Addr} {n : Nat} {D : List α} (h : RecsAt f s w sa n D) (hw : Wrote Nil w w') : RecsAt f s w' sa n D := h.wrote hw fun _ _ => id

/-- a slice with a record: where it begins -/
theorem RecsAt.at {w : World} {sa : Option Addr} {n : Nat} {D : List α} (h : RecsAt f s w sa n D) (hf : ∀ x, f x ≠ []) :
    n = 0 ∨ ∃ b o, sa = some ⟨b, o, none⟩ ∧ ∀ (k : Nat) (x : α), D[k]? = some x → ∀ (j : Nat) (u : Value), (f x)[j]? = some u → w.cell? ⟨b, o + (k * s + j), none⟩ = some u := by
  rcases Nat.eq_zero_or_pos n with h0 | h0
  · exact .inl h0
  · cases sa with
    | none => exact .inl (h.empty rfl)
    | some a =>
      have hD : D[0]? = some (D[0]'(by rw [h.len]; exact h0)) := List.getElem?_eq_getElem _
      have hl : 0 < (f (D[0]'(by rw [h.len]; exact h0))).length := List.length_pos_iff.2 (hf _)
      have hc := h.cell a rfl 0 _ hD 0 _ (List.getElem?_eq_getElem hl)
      have ha : a.add (0 * s + 0) = a := by simp [Addr.add]
      rw [ha] at hc
      have hsp := spot_of_cell hc
      refine .inr ⟨a.block, a.off, by rw [← hsp], fun k x hx j u hu => ?_⟩
      have hcj := h.cell a rfl k x hx j u hu
      rw [hsp, Go.Addr.add_lit] at hcj
      exact hcj

theorem flat_len (hf : ∀ x, (f x).length = s) (D : List α) : (D.flatMap f).length = D.length * s := by
  induction D with
  | nil => simp
  | cons x r ih => simp [hf, ih, Nat.succ_mul, Nat.add_comm]
theorem flat_at' (hf : ∀ x, (f x).length = s) (D : List α) {k : Nat} {x : α} (hx : D[k]? = some x) {j : Nat} (hj : j < s) : (D.flatMap f)[k * s + j]? = (f x)[j]? := by
  induction D generalizing k with
  | nil => simp at hx
  | cons y r ih =>
    rw [List.flatMap_cons]
    cases k with
    | zero =>
      obtain rfl : y = x := by simpa using hx
      rw [Nat.zero_mul, Nat.zero_add, List.getElem?_append_left (by rw [hf]; exact hj)]
    | succ k =>
      rw [List.getElem?_append_right (by rw [hf, Nat.succ_mul]; omega), hf, show (k + 1) * s + j - s = k * s + j by rw [Nat.succ_mul]; omega]
      exact ih (by simpa using hx)

/-- a row of the call's own, read as records -/
theorem own_recs {w : World} {base : Nat} {e : TypeId} {v : Value} {n : Nat} {D : List α} (hf : ∀ x, (f x).length = s) (h : w.ownsRow base e s v n (D.flatMap f)) (hs : 0 < s) :
    ∃ sa cap, v = .slice sa n cap ∧ (sa = none → cap = 0) ∧ RecsAt f s w sa n D ∧ (∀ b, sa = some b → base ≤ b.block ∧ b.block < w.heap.size ∧ b.off = 0 ∧ b.spot = none) := by
  have hl : D.length = n := by
    have h1 := h.1
    rw [flat_len hf] at h1
    exact Nat.eq_of_mul_eq_mul_right hs h1
  rcases h.2 with ⟨rfl, rfl⟩ | ⟨g, cap, cur, rfl, hb, hg, hnc, hcm, hcs, ht⟩
  · exact ⟨none, 0, rfl, fun _ => rfl, ⟨hl, fun _ => rfl, (fun b hb => nomatch hb)⟩, (fun b hb => nomatch hb)⟩
  · refine ⟨some ⟨g, 0, none⟩, cap, rfl, (fun h => nomatch h), ⟨hl, (fun h => nomatch h), fun a ha k x hx j u hu => ?_⟩, fun b hb' => ?_⟩
    · obtain rfl : ⟨g, 0, none⟩ = a := by simpa using ha
      have hj : j < s := by rw [← hf x]; exact (List.getElem?_eq_some_iff.1 hu).1
      have hk : k < n := by rw [← hl]; exact (List.getElem?_eq_some_iff.1 hx).1
      have hlt : k * s + j < n * s := Nat.lt_of_lt_of_le (by rw [Nat.succ_mul]; omega : k * s + j < (k + 1) * s) (Nat.mul_le_mul_right s hk)
      rw [Go.Addr.add_lit, Nat.zero_add, blk_cell hg]
      have h2 := flat_at' hf D hx hj
      rw [hu, ← ht, List.getElem?_take_of_lt hlt] at h2
      rw [← Array.getElem?_toList]
      exact h2
    · obtain rfl : ⟨g, 0, none⟩ = b := by simpa using hb'
      exact ⟨hb, blk_lt hg, rfl, rfl⟩
end

/-- records of numbers and truths that came in, as a list: what is made of each record's numbers -/
theorem StructsK.recs {α : Type} {f : α → List Value} {w : World} {ks : List FK} {sa : Option Addr} {len : Nat} {Z : Nat → Nat → Int} (h : StructsK w ks sa len Z) (g : Nat → α)
    (hg : ∀ i, i < len → ∀ (j : Nat) (u : Value), (f (g i))[j]? = some u → ∃ k, ks[j]? = some k ∧ u = k.val (Z i j)) : RecsAt f ks.length w sa len ((List.range len).map g) := by
  refine ⟨by simp, h.empty, fun b hb k x hx j u hu => ?_⟩
  simp only [List.getElem?_map, Option.map_eq_some_iff] at hx
  obtain ⟨i, hi, rfl⟩ := hx
  have hk : k < len := by have := (List.getElem?_eq_some_iff.1 hi).1; simpa using this
  obtain rfl : k = i := by rw [List.getElem?_range hk] at hi; exact Option.some.inj hi
  obtain ⟨q, hq, rfl⟩ := hg k hk j u hu
  exact (h.cell b hb k hk j q hq).1
theorem Structs.recs {α : Type} {f : α → List Value} {w : World} {ks : List IntKind} {sa : Option Addr} {len : Nat} {Z : Nat → Nat → Int} (h : Structs w ks sa len Z) (g : Nat → α)
    (hg : ∀ i, i < len → ∀ (j : Nat) (u : Value), (f (g i))[j]? = some u → ∃ k, ks[j]? = some k ∧ u = .int k (Z i j)) : RecsAt f ks.length w sa len ((List.range len).map g) := by
  refine ⟨by simp, h.empty, fun b hb k x hx j u hu => ?_⟩
  simp only [List.getElem?_map, Option.map_eq_some_iff] at hx
  obtain ⟨i, hi, rfl⟩ := hx
  have hk : k < len := by have := (List.getElem?_eq_some_iff.1 hi).1; simpa using this
  obtain rfl : k = i := by rw [List.getElem?_range hk] at hi; exact Option.some.inj hi
  obtain ⟨q, hq, rfl⟩ := hg k hk j u hu
  exact (h.cell b hb k hk j q hq).1

/-- one place of a function turned -/
def upd {α : Type} (f : Nat → α) (i : Nat) (x : α) (j : Nat) : α := if j = i then x else f j
theorem upd_same {α : Type} (f : Nat → α) (i : Nat) (x : α) : upd f i x i = x := if_pos rfl
theorem upd_other {α : Type} (f : Nat → α) {i j : Nat} (x : α) (h : j ≠ i) : upd f i x j = f j := if_neg h

/-- records of s cells each, one cell of one of them turned -/
theorem flat_set {α : Type} {f f' : α → List Value} {s : Nat} (hf : ∀ x, (f x).length = s) (hf' : ∀ x, (f' x).length = s) (D : List α) (k j : Nat) (hj : j < s) (v : Value)
    (h : ∀ i x, D[i]? = some x → ∀ l, l < s → (f' x)[l]? = if i = k ∧ l = j then some v else (f x)[l]?) : (D.flatMap f).set (k * s + j) v = D.flatMap f' := by
  apply List.ext_getElem?
  intro m
  have hs : 0 < s := by omega
  by_cases hm : m < D.length * s
  · have ha : m / s < D.length := Nat.div_lt_of_lt_mul (by rw [Nat.mul_comm]; exact hm)
    have hb : m % s < s := Nat.mod_lt _ hs
    have hx : D[m / s]? = some (D[m / s]'ha) := List.getElem?_eq_getElem ha
    have e : m = m / s * s + m % s := by rw [Nat.mul_comm]; exact (Nat.div_add_mod m s).symm
    have h1 := flat_at' hf D hx hb
    have h2 := flat_at' hf' D hx hb
    rw [← e] at h1 h2
    rw [h2, h _ _ hx _ hb, List.getElem?_set]
    by_cases hk : m / s = k ∧ m % s = j
    · rw [if_pos hk, if_pos (by rw [← hk.1, ← hk.2]; exact e.symm), if_pos (by rw [flat_len hf]; rw [← hk.1, ← hk.2, ← e]; exact hm)]
    · rw [if_neg hk, if_neg (fun e2 => hk ?_), h1]
      rw [← e2]
      constructor
      · rw [Nat.add_comm, Nat.add_mul_div_right _ _ hs, Nat.div_eq_of_lt hj, Nat.zero_add]
      · rw [Nat.add_comm, Nat.add_mul_mod_self_right, Nat.mod_eq_of_lt hj]
  · rw [List.getElem?_eq_none (by rw [List.length_set, flat_len hf]; omega), List.getElem?_eq_none (by rw [flat_len hf']; omega)]

/-- an owned row, one cell of it turned -/
theorem ownsRow_set {w : World} {base : Nat} {e : TypeId} {size g n cap : Nat} {xs ys : List Value} (h : w.ownsRow base e size (.slice (some ⟨g, 0, none⟩) n cap) n xs) (i : Nat) (v : Value) (hi : i < n * size) (hy : xs.set i v = ys) :
    (w.setCell ⟨g, i, none⟩ v).ownsRow base e size (.slice (some ⟨g, 0, none⟩) n cap) n ys := by
  subst hy
  refine ⟨by simpa using h.1, ?_⟩
  rcases h.2 with ⟨hn, _⟩ | ⟨g', cap', cur, hv, hb, hg, hnc, hcm, hcs, ht⟩
  · cases hn
  · simp only [Value.slice.injEq, Option.some.injEq, Addr.mk.injEq, and_true, true_and] at hv
    obtain ⟨rfl, rfl⟩ := hv
    refine .inr ⟨g, cap, cur.setIfInBounds i v, rfl, hb, blk_setCell hg i v, hnc, hcm, by simpa using hcs, ?_⟩
    rw [Array.toList_setIfInBounds, List.take_set, ht]

theorem own_slice {w : World} {base : Nat} {e : TypeId} {size : Nat} {v : Value} {n : Nat} {xs : List Value} (h : w.ownsRow base e size v n xs) : ∃ so cap, v = .slice so n cap ∧ (so = none → cap = 0) := by
  rcases h.2 with ⟨rfl, rfl⟩ | ⟨g, cap, cur, rfl, _⟩
  · exact ⟨none, 0, rfl, fun _ => rfl⟩
  · exact ⟨some ⟨g, 0, none⟩, cap, rfl, fun h => nomatch h⟩

end Go.Proofs.YtkmikkjjnbikdaaGreat
