/- How an argument that is a struct of integers, or a slice of such structs, lies in the heap: each field's cell holds a number that fits its kind; no program is named. -/
import Derived.Deep.Slices
import Derived.Deep.Fields
import Derived.ChangeSame
import Derived.Below
import Derived.WideShapes
import Derived.Test.YtmnephejhkfchaaHeap
namespace Go.Proofs.Ytmnephejhkfchaa
open Go.ChangeShapes Go.WideShapes Go.Deep Go.RowKit
set_option linter.unusedVariables false

/-- the struct's fields are one cell each, integers of these kinds -/
def flatInts (P : Program) (fs : Array Field) (ks : List IntKind) : Bool :=
  fs.size == ks.length && oneCellFields P fs && (List.range fs.size).all fun j => match fs[j]?, ks[j]? with
    | some f, some k => (match P.underlying f.type with
      | some (.int k') => decide (k' = k)
      | _ => false)
    | _, _ => false

/-! lists of known length -/
theorem list1 {α : Type} {l : List α} (h : l.length = 1) : ∃ x0, l = [x0] := by
  match l, h with
  | [x0], _ => exact ⟨x0, rfl⟩
theorem list2 {α : Type} {l : List α} (h : l.length = 2) : ∃ x0 x1, l = [x0, x1] := by
  match l, h with
  | [x0, x1], _ => exact ⟨x0, x1, rfl⟩
theorem list3 {α : Type} {l : List α} (h : l.length = 3) : ∃ x0 x1 x2, l = [x0, x1, x2] := by
  match l, h with
  | [x0, x1, x2], _ => exact ⟨x0, x1, x2, rfl⟩
theorem list4 {α : Type} {l : List α} (h : l.length = 4) : ∃ x0 x1 x2 x3, l = [x0, x1, x2, x3] := by
  match l, h with
  | [x0, x1, x2, x3], _ => exact ⟨x0, x1, x2, x3, rfl⟩
theorem list5 {α : Type} {l : List α} (h : l.length = 5) : ∃ x0 x1 x2 x3 x4, l = [x0, x1, x2, x3, x4] := by
  match l, h with
  | [x0, x1, x2, x3, x4], _ => exact ⟨x0, x1, x2, x3, x4, rfl⟩
theorem list6 {α : Type} {l : List α} (h : l.length = 6) : ∃ x0 x1 x2 x3 x4 x5, l = [x0, x1, x2, x3, x4, x5] := by
  match l, h with
  | [x0, x1, x2, x3, x4, x5], _ => exact ⟨x0, x1, x2, x3, x4, x5, rfl⟩
theorem list7 {α : Type} {l : List α} (h : l.length = 7) : ∃ x0 x1 x2 x3 x4 x5 x6, l = [x0, x1, x2, x3, x4, x5, x6] := by
  match l, h with
  | [x0, x1, x2, x3, x4, x5, x6], _ => exact ⟨x0, x1, x2, x3, x4, x5, x6, rfl⟩
theorem list8 {α : Type} {l : List α} (h : l.length = 8) : ∃ x0 x1 x2 x3 x4 x5 x6 x7, l = [x0, x1, x2, x3, x4, x5, x6, x7] := by
  match l, h with
  | [x0, x1, x2, x3, x4, x5, x6, x7], _ => exact ⟨x0, x1, x2, x3, x4, x5, x6, x7, rfl⟩

/-- a row of numbers of one kind that lies in the world, or nil -/
structure RowAt (k : IntKind) (w : World) (sa : Option Addr) (m : Nat) (hs : List Int) : Prop where
  len : hs.length = m
  empty : sa = none → m = 0
  cell : ∀ b, sa = some b → ∀ j, j < m → w.cell? (b.add j) = some (.int k (hs.getD j 0))
theorem RowAt.news {k : IntKind} {w : World} {sa : Option Addr} {m : Nat} {hs : List Int} (h : RowAt k w sa m hs) :
    ∀ b, sa = some b → ∀ j u, (hs.map (Value.int k))[j]? = some u → w.cell? (b.add j) = some u := by
  intro b hb j u hu
  simp only [List.getElem?_map, Option.map_eq_some_iff] at hu
  obtain ⟨z, hz, rfl⟩ := hu
  have hj : j < hs.length := (List.getElem?_eq_some_iff.1 hz).1
  rw [h.cell b hb j (by rw [← h.len]; exact hj), List.getD_eq_getElem?_getD, hz]
  rfl
theorem RowAt.wrote {k : IntKind} {w w' : World} {sa : Option Addr} {m : Nat} {hs : List Int} (h : RowAt k w sa m hs) {S : Nat → Prop} (hw : Wrote S w w') (hs' : ∀ b, sa = some b → ¬ S b.block) : RowAt k w' sa m hs := by
  refine ⟨h.len, h.empty, fun b hb j hj => ?_⟩
  have hc := h.cell b hb j hj
  have hbl : (b.add j).block = b.block := by unfold Addr.add; split <;> rfl
  have hlt : (b.add j).block < w.heap.size := World.block_lt_of_cell? w _ hc
  rw [World.cell?_of_block (w := w) (hw.block _ hlt (by rw [hbl]; exact hs' b hb)), hc]
theorem RowAt.after {k : IntKind} {w w' : World} {sa : Option Addr} {m : Nat} {hs : List Int} (h : RowAt k w sa m hs) (hw : Wrote Nil w w') : RowAt k w' sa m hs := h.wrote hw fun _ _ => id

theorem spot_of_cell {w : World} {a : Addr} {v : Value} (h : w.cell? a = some v) : a = ⟨a.block, a.off, none⟩ := by
  obtain ⟨e, n, _, _, hs⟩ := World.shape?_of_cell? h
  cases a
  simp_all
/-- a row with an element: where it begins -/
theorem RowAt.at {k : IntKind} {w : World} {sa : Option Addr} {m : Nat} {hs : List Int} (h : RowAt k w sa m hs) :
    m = 0 ∨ ∃ b o, sa = some ⟨b, o, none⟩ ∧ ∀ j, j < m → w.cell? ⟨b, o + j, none⟩ = some (.int k (hs.getD j 0)) := by
  rcases Nat.eq_zero_or_pos m with h0 | h0
  · exact .inl h0
  · cases sa with
    | none => exact .inl (h.empty rfl)
    | some a =>
      have hc := h.cell a rfl 0 h0
      have ha : a.add 0 = a := by simp [Addr.add]
      rw [ha] at hc
      have hsp := spot_of_cell hc
      refine .inr ⟨a.block, a.off, by rw [← hsp], fun j hj => ?_⟩
      have hcj := h.cell a rfl j hj
      rw [hsp, Go.Addr.add_lit] at hcj
      exact hcj

/-- a store into a row -/
theorem RowAt.set {k : IntKind} {w : World} {b o : Nat} {m : Nat} {hs : List Int} (h : RowAt k w (some ⟨b, o, none⟩) m hs) (j : Nat) (hj : j < m) (v : Int) :
    RowAt k (w.setCell ⟨b, o + j, none⟩ (.int k v)) (some ⟨b, o, none⟩) m (hs.set j v) := by
  refine ⟨by simpa using h.len, (fun h => nomatch h), fun a ha i hi => ?_⟩
  obtain rfl : ⟨b, o, none⟩ = a := by simpa using ha
  have hc := h.cell _ rfl
  rw [Go.Addr.add_lit]
  by_cases e : i = j
  · subst e
    have hi' := hc i hi
    rw [Go.Addr.add_lit] at hi'
    rw [World.cell?_setCell_same _ _ _ hi']
    simp [h.len, hi]
  · rw [World.cell?_setCell_other _ _ _ _ (by intro h; simp only [Addr.mk.injEq] at h; omega)]
    have hi' := hc i hi
    rw [Go.Addr.add_lit] at hi'
    rw [hi']
    simp [Ne.symm e]

theorem own_row {k : IntKind} {e : TypeId} {w : World} {base : Nat} {v : Value} {n : Nat} {zs : List Int} (h : w.ownsRow base e 1 v n (zs.map (Value.int k))) (hn : 0 < n) :
    ∃ g cap, v = .slice (some ⟨g, 0, none⟩) n cap ∧ n ≤ cap ∧ base ≤ g ∧ g < w.heap.size ∧ RowAt k w (some ⟨g, 0, none⟩) n zs ∧ ∀ j, w.frozen? ⟨g, j, none⟩ = false := by
  have hl : zs.length = n := by have := h.1; simpa using this
  rcases h.2 with ⟨_, h0⟩ | ⟨g, cap, cur, rfl, hb, hg, hnc, hcm, hcs, ht⟩
  · omega
  · refine ⟨g, cap, rfl, hnc, hb, blk_lt hg, ⟨hl, (fun h => nomatch h), fun a ha j hj => ?_⟩, fun j => blk_frozen hg j⟩
    obtain rfl : ⟨g, 0, none⟩ = a := by simpa using ha
    rw [Go.Addr.add_lit, Nat.zero_add, blk_cell hg]
    have h2 : (cur.toList.take (n * 1))[j]? = (zs.map (Value.int k))[j]? := by rw [ht]
    rw [List.getElem?_take_of_lt (by omega)] at h2
    rw [← Array.getElem?_toList, h2]
    simp [hl, hj]

/-- append of a row of numbers (or nil) onto a row of the call's own -/
theorem wpList_append_row {P : Program} {w : World} {ops : Array Oper} {rest : List Oper} {o : Oper} {a : Act} {Q : Exit → Act → World → Prop} (hgd : o.guard = none) (s x : Operand) (t : TypeId)
    (ho : o.op = .call { callee := .builtin .append, args := #[s, x], argTypes := #[t, t] })
    (base : Nat) (e : TypeId) (i : TypeInfo) (z : Value) (bytes : Nat) (ht : P.underlying t = some (.slice e)) (hi : P.info? e = some i) (hz : i.zero = some z)
    (hsize : i.size = 1) (hby : i.bytes = bytes) (hzs : z.cells.size = 1)
    (k : IntKind) (v : Value) (n : Nat) (ys : List Int) (hs : a.eval s = v) (hown : w.ownsRow base e 1 v n (ys.map (Value.int k)))
    (sa : Option Addr) (m c : Nat) (zs : List Int) (hx : a.eval x = .slice sa m c) (hr : RowAt k w sa m zs) (hc : sa = none → c = 0)
    (h63 : n + m ≤ maxLen) (hbytes : (n + m) * bytes ≤ 140737488355328) (hbase : base ≤ w.heap.size)
    (h : ∀ v' w', w'.ownsRow base e 1 v' (n + m) ((ys ++ zs).map (Value.int k)) → w.grownBy w' v.ownBlock → wpList P ops Q rest (a.put o.dst v') w') : wpList P ops Q (o :: rest) a w := by
  cases sa with
  | none =>
    obtain rfl := hr.empty rfl
    obtain rfl := hc rfl
    obtain rfl : zs = [] := List.eq_nil_of_length_eq_zero hr.len
    refine wpList_append_own_none hgd s x t ho base e i 1 ht hi v n _ hs hown hx ?_
    exact h v w (by simpa using hown) ⟨rfl, rfl, rfl, Nat.le_refl _, fun _ _ _ => rfl⟩
  | some ad =>
    refine wpList_append_own w hgd s x t ho base e i z 1 bytes ht hi hz hsize hby hzs (by omega) v n _ hs hown ad m c (zs.map (Value.int k)) hx (by simpa using hr.len) (hr.news ad rfl) ?_ h63 hbytes hbase ?_
    · intro u hu
      simp only [List.mem_map] at hu
      obtain ⟨y, _, rfl⟩ := hu
      rfl
    · intro v' w' h1 h2 _
      exact h v' w' (by rw [List.map_append]; exact h1) h2

/-- what a row of the call's own is, read as a row of numbers -/
theorem own_rowAt {k : IntKind} {e : TypeId} {w : World} {base : Nat} {v : Value} {n : Nat} {zs : List Int} (h : w.ownsRow base e 1 v n (zs.map (Value.int k))) :
    ∃ sa cap, v = .slice sa n cap ∧ (n = 0 ∨ n ≤ cap) ∧ (sa = none → cap = 0) ∧ RowAt k w sa n zs ∧ (∀ b, sa = some b → base ≤ b.block ∧ b.block < w.heap.size ∧ b.off = 0 ∧ b.spot = none ∧ ∀ j, w.frozen? ⟨b.block, j, none⟩ = false) := by
  have hl : zs.length = n := by have := h.1; simpa using this
  rcases h.2 with ⟨rfl, rfl⟩ | ⟨g, cap, cur, rfl, hb, hg, hnc, hcm, hcs, ht⟩
  · exact ⟨none, 0, rfl, .inl rfl, fun _ => rfl, ⟨hl, fun _ => rfl, (fun b hb => nomatch hb)⟩, (fun b hb => nomatch hb)⟩
  · refine ⟨some ⟨g, 0, none⟩, cap, rfl, .inr hnc, (fun h => nomatch h), ⟨hl, (fun h => nomatch h), fun a ha j hj => ?_⟩, fun b hb' => ?_⟩
    · obtain rfl : ⟨g, 0, none⟩ = a := by simpa using ha
      rw [Go.Addr.add_lit, Nat.zero_add, blk_cell hg]
      have h2 : (cur.toList.take (n * 1))[j]? = (zs.map (Value.int k))[j]? := by rw [ht]
      rw [List.getElem?_take_of_lt (by omega)] at h2
      rw [← Array.getElem?_toList, h2]
      simp [hl, hj]
    · obtain rfl : ⟨g, 0, none⟩ = b := by simpa using hb'
      exact ⟨hb, blk_lt hg, rfl, rfl, fun j => blk_frozen hg j⟩

section
variable {H : Type} {enc : TypeId × Value → H} {P : Program} {w : World} {base : Nat} {spare : Nat → Bool} {held : Bool}

theorem flat_at {fs : Array Field} {ks : List IntKind} (h : flatInts P fs ks = true) {j : Nat} {k : IntKind} (hk : ks[j]? = some k) :
    ∃ f, fs[j]? = some f ∧ f.offset = j ∧ P.cellsOf f.type = 1 ∧ P.underlying f.type = some (.int k) := by
  simp only [flatInts, Bool.and_eq_true, beq_iff_eq] at h
  obtain ⟨⟨hn, hone⟩, hall⟩ := h
  have hj : j < fs.size := by rw [hn]; exact (List.getElem?_eq_some_iff.1 hk).1
  have h1 := List.all_eq_true.1 hall j (List.mem_range.2 hj)
  have hf : fs[j]? = some fs[j] := Array.getElem?_eq_getElem hj
  rw [hf, hk] at h1
  obtain ⟨ho, hc⟩ := hone_of hone j _ hf
  refine ⟨fs[j], hf, ho, hc, ?_⟩
  revert h1
  simp only
  split
  · rename_i k' hu
    intro h2
    rw [hu, of_decide_eq_true h2]
  · intro h2
    cases h2

theorem flat_size {fs : Array Field} {ks : List IntKind} (h : flatInts P fs ks = true) : fs.size = ks.length := by
  simp only [flatInts, Bool.and_eq_true, beq_iff_eq] at h
  exact h.1.1

/-- the cells of one such struct -/
theorem struct_ints {e : TypeId} {fs : Array Field} {ks : List IntKind} {fuel : Nat} {cs : List Value} {x : DataW H × List MemPlace} (he : P.underlying e = some (.struct fs)) (hfl : flatInts P fs ks = true)
    (h : DataW.trod enc P w base spare held fuel e cs = some x) (hl : cs.length = ks.length) :
    ∀ (j : Nat) (k : IntKind), ks[j]? = some k → ∃ z, cs[j]? = some (Value.int k z) ∧ (Lit.int k z).wf = true := by
  intro j k hk
  obtain ⟨ys, n, _, _, hlen, hyl, hf⟩ := DataW.trod_struct he h
  obtain ⟨f, hj, ho, hc, hu⟩ := flat_at hfl hk
  have h1 := hf j f hj
  have hjl : j < cs.length := by rw [hl]; exact (List.getElem?_eq_some_iff.1 hk).1
  have hjy : j < ys.length := by rw [hyl]; exact (Array.getElem?_eq_some_iff.1 hj).1
  have h2 : (cs.drop j).take 1 = [cs[j]] := by rw [List.drop_eq_getElem_cons hjl]; rfl
  rw [ho, hc, h2, List.getElem?_eq_getElem hjy] at h1
  obtain ⟨z, hz, _, hwf⟩ := DataW.trod_int hu h1
  refine ⟨z, ?_, hwf⟩
  rw [List.getElem?_eq_getElem hjl]
  simpa using hz

/-- an argument that is such a struct -/
theorem open_struct_ints {r : Reach} {b0 : Nat} {e : TypeId} {fs : Array Field} {ks : List IntKind} {v : Value} {d : DataW H} {p : List MemPlace} (he : P.underlying e = some (.struct fs)) (hfl : flatInts P fs ks = true) (hC : P.cellsOf e = ks.length)
    (hv : Value.okWide P w r b0 e v) (h : DataW.Trod enc P w base spare held e v d p) :
    ∃ cs : List Value, v = .agg cs.toArray ∧ cs.length = ks.length ∧ ∀ (j : Nat) (k : IntKind), ks[j]? = some k → ∃ z, cs[j]? = some (Value.int k z) ∧ (Lit.int k z).wf = true := by
  obtain ⟨⟨cs⟩, rfl, hsz⟩ := okWide_struct he hv
  have hl : cs.length = ks.length := by rw [← hC, ← hsz]; rfl
  obtain ⟨fuel, hf⟩ := h
  exact ⟨cs, rfl, hl, struct_ints he hfl (by simpa [Value.cells] using hf) hl⟩

/-- the number that a cell holds -/
def cellI (w : World) (a : Addr) : Int := match w.cell? a with
  | some v => intOf v
  | none => 0

/-- a row of such structs that lies in the world, or nil -/
structure Structs (w : World) (ks : List IntKind) (sa : Option Addr) (len : Nat) (Z : Nat → Nat → Int) : Prop where
  empty : sa = none → len = 0
  cell : ∀ a, sa = some a → ∀ i, i < len → ∀ (j : Nat) (k : IntKind), ks[j]? = some k → w.cell? (a.add (i * ks.length + j)) = some (.int k (Z i j)) ∧ (Lit.int k (Z i j)).wf = true

theorem Structs.at {w : World} {ks : List IntKind} {sa : Option Addr} {len : Nat} {Z : Nat → Nat → Int} (h : Structs w ks sa len Z) (hk : 0 < ks.length) :
    len = 0 ∨ ∃ b o, sa = some ⟨b, o, none⟩ ∧ ∀ i, i < len → ∀ (j : Nat) (k : IntKind), ks[j]? = some k → w.cell? ⟨b, o + (i * ks.length + j), none⟩ = some (.int k (Z i j)) ∧ (Lit.int k (Z i j)).wf = true := by
  rcases Nat.eq_zero_or_pos len with h0 | h0
  · exact .inl h0
  · cases sa with
    | none => exact .inl (h.empty rfl)
    | some a =>
      have hc := (h.cell a rfl 0 h0 0 _ (List.getElem?_eq_getElem hk)).1
      have ha : a.add (0 * ks.length + 0) = a := by simp [Addr.add]
      rw [ha] at hc
      have hsp := spot_of_cell hc
      refine .inr ⟨a.block, a.off, by rw [← hsp], fun i hi j k hj => ?_⟩
      have hcj := h.cell a rfl i hi j k hj
      rw [hsp, Go.Addr.add_lit] at hcj
      exact hcj

/-- an argument that is a slice of such structs -/
theorem open_slice_ints {t e : TypeId} {fs : Array Field} {ks : List IntKind} {sa : Option Addr} {len cap : Nat} {d : DataW H} {p : List MemPlace} (ht : P.underlying t = some (.slice e)) (he : P.underlying e = some (.struct fs))
    (hfl : flatInts P fs ks = true) (hC : P.cellsOf e = ks.length) (h : DataW.Trod enc P w base spare held t (.slice sa len cap) d p) :
    (len ≤ cap ∧ cap ≤ maxLen ∧ (sa = none → cap = 0)) ∧ ∃ Z, Structs w ks sa len Z := by
  obtain ⟨fuel, hf⟩ := h
  rcases open_slice ht hf with ⟨h0, _⟩ | ⟨a, len', cap', m, n, D, Pl, hcs, hb, hl, hm, hmm, hx, hi⟩
  · simp only [Value.cells, List.cons.injEq, Value.slice.injEq, and_true] at h0
    obtain ⟨rfl, rfl, rfl⟩ := h0
    exact ⟨⟨Nat.le_refl _, by unfold maxLen; omega, fun _ => rfl⟩, fun _ _ => 0, ⟨fun _ => rfl, (fun a ha => nomatch ha)⟩⟩
  · simp only [Value.cells, List.cons.injEq, Value.slice.injEq, and_true] at hcs
    obtain ⟨rfl, rfl, rfl⟩ := hcs
    refine ⟨⟨hl, hm, (fun h => nomatch h)⟩, fun i j => cellI w (a.add (i * ks.length + j)), ⟨(fun h => nomatch h), fun a' ha i him j k hk => ?_⟩⟩
    obtain rfl : a = a' := by simpa using ha
    have hlm : len ≤ m := by rw [hmm]; split <;> omega
    obtain ⟨cs', hc, ht'⟩ := hi i (by omega)
    rw [hC] at hc
    obtain ⟨_, hcl, hat⟩ := World.cells?_some hc
    obtain ⟨z, hz, hwf⟩ := struct_ints he hfl ht' hcl j k hk
    have hcell := hat j (List.getElem?_eq_some_iff.1 hk).1
    rw [Go.Deep.add_add, hz] at hcell
    have hZ : cellI w (a.add (i * ks.length + j)) = z := by unfold cellI; rw [hcell]; rfl
    exact ⟨by rw [hZ]; exact hcell, by rw [hZ]; exact hwf⟩

/-- an argument that is such a struct, its numbers in a list -/
theorem open_struct_list {r : Reach} {b0 : Nat} {e : TypeId} {fs : Array Field} {ks : List IntKind} {v : Value} {d : DataW H} {p : List MemPlace} (he : P.underlying e = some (.struct fs)) (hfl : flatInts P fs ks = true) (hC : P.cellsOf e = ks.length)
    (hv : Value.okWide P w r b0 e v) (h : DataW.Trod enc P w base spare held e v d p) :
    ∃ zs : List Int, v = .agg (List.zipWith Value.int ks zs).toArray ∧ zs.length = ks.length ∧ ∀ (j : Nat) (k : IntKind), ks[j]? = some k → (Lit.int k (zs.getD j 0)).wf = true := by
  obtain ⟨cs, rfl, hl, hc⟩ := open_struct_ints he hfl hC hv h
  refine ⟨cs.map intOf, ?_, by simpa using hl, fun j k hk => ?_⟩
  · congr 2
    apply List.ext_getElem?
    intro j
    rw [List.getElem?_zipWith]
    by_cases hj : j < ks.length
    · obtain ⟨z, hz, _⟩ := hc j ks[j] (List.getElem?_eq_getElem hj)
      simp [hz, List.getElem?_eq_getElem hj, intOf]
    · rw [List.getElem?_eq_none (by omega), List.getElem?_eq_none (by omega)]
  · obtain ⟨z, hz, hw⟩ := hc j k hk
    simpa [hz, intOf] using hw

/-- an argument that is a slice of integers -/
theorem open_slice_row {t e : TypeId} {k : IntKind} {sa : Option Addr} {len cap : Nat} {d : DataW H} {p : List MemPlace} (ht : P.underlying t = some (.slice e)) (he : P.underlying e = some (.int k)) (hC : P.cellsOf e = 1)
    (h : DataW.Trod enc P w base spare held t (.slice sa len cap) d p) :
    (len ≤ cap ∧ cap ≤ maxLen ∧ (sa = none → cap = 0)) ∧ ∃ zs, RowAt k w sa len zs ∧ ∀ z ∈ zs, (Lit.int k z).wf = true := by
  obtain ⟨fuel, hf⟩ := h
  rcases open_slice ht hf with ⟨h0, _⟩ | ⟨a, len', cap', m, n, D, Pl, hcs, hb, hl, hm, hmm, hx, hi⟩
  · simp only [Value.cells, List.cons.injEq, Value.slice.injEq, and_true] at h0
    obtain ⟨rfl, rfl, rfl⟩ := h0
    exact ⟨⟨Nat.le_refl _, by unfold maxLen; omega, fun _ => rfl⟩, [], ⟨rfl, fun _ => rfl, (fun a ha => nomatch ha)⟩, fun z hz => nomatch hz⟩
  · simp only [Value.cells, List.cons.injEq, Value.slice.injEq, and_true] at hcs
    obtain ⟨rfl, rfl, rfl⟩ := hcs
    have key : ∀ i, i < len → w.cell? (a.add i) = some (.int k (cellI w (a.add i))) ∧ (Lit.int k (cellI w (a.add i))).wf = true := by
      intro i hil
      have hlm : len ≤ m := by rw [hmm]; split <;> omega
      obtain ⟨cs', hc, ht'⟩ := hi i (by omega)
      rw [hC, Nat.mul_one] at hc
      obtain ⟨_, hcl, hat⟩ := World.cells?_some hc
      obtain ⟨z, rfl, _, hwf⟩ := DataW.trod_int he ht'
      have hcell := hat 0 (by omega)
      rw [Go.Deep.add_add] at hcell
      have hcell : w.cell? (a.add i) = some (.int k z) := hcell
      have hZ : cellI w (a.add i) = z := by unfold cellI; rw [hcell]; rfl
      rw [hZ]
      exact ⟨hcell, hwf⟩
    refine ⟨⟨hl, hm, (fun h => nomatch h)⟩, (List.range len).map fun i => cellI w (a.add i), ⟨by simp, (fun h => nomatch h), fun a' ha i him => ?_⟩, fun z hz => ?_⟩
    · obtain rfl : a = a' := by simpa using ha
      simp only [List.getD_eq_getElem?_getD, List.getElem?_map, List.getElem?_range him, Option.map_some, Option.getD_some]
      exact (key i him).1
    · simp only [List.mem_map, List.mem_range] at hz
      obtain ⟨i, hil, rfl⟩ := hz
      exact (key i hil).2

/-- the kind of a field of one cell: an integer or a truth (a truth's number is 1 or 0) -/
inductive FK
  | int (k : IntKind)
  | bool
def FK.val : FK → Int → Value
  | .int k, z => .int k z
  | .bool, z => .bool (decide (z = 1))
def FK.ok : FK → Int → Bool
  | .int k, z => (Lit.int k z).wf
  | .bool, _ => true
/-- the number of a cell's value -/
def numOf : Value → Int
  | .bool b => if b then 1 else 0
  | v => intOf v
def FK.fits (P : Program) (t : TypeId) : FK → Bool
  | .int k => (match P.underlying t with
    | some (.int k') => decide (k' = k)
    | _ => false)
  | .bool => (match P.underlying t with
    | some .bool => true
    | _ => false)
/-- the struct's fields are one cell each, of these kinds -/
def flatFK (P : Program) (fs : Array Field) (ks : List FK) : Bool :=
  fs.size == ks.length && oneCellFields P fs && (List.range fs.size).all fun j => match fs[j]?, ks[j]? with
    | some f, some k => k.fits P f.type
    | _, _ => false

theorem flatFK_at {fs : Array Field} {ks : List FK} (h : flatFK P fs ks = true) {j : Nat} {k : FK} (hk : ks[j]? = some k) :
    ∃ f, fs[j]? = some f ∧ f.offset = j ∧ P.cellsOf f.type = 1 ∧ k.fits P f.type = true := by
  simp only [flatFK, Bool.and_eq_true, beq_iff_eq] at h
  obtain ⟨⟨hn, hone⟩, hall⟩ := h
  have hj : j < fs.size := by rw [hn]; exact (List.getElem?_eq_some_iff.1 hk).1
  have h1 := List.all_eq_true.1 hall j (List.mem_range.2 hj)
  have hf : fs[j]? = some fs[j] := Array.getElem?_eq_getElem hj
  rw [hf, hk] at h1
  obtain ⟨ho, hc⟩ := hone_of hone j _ hf
  exact ⟨fs[j], hf, ho, hc, h1⟩

theorem cell_fk {k : FK} {t : TypeId} {fuel : Nat} {v : Value} {x : DataW H × List MemPlace} (hf : k.fits P t = true) (h : DataW.trod enc P w base spare held fuel t [v] = some x) : v = k.val (numOf v) ∧ k.ok (numOf v) = true := by
  cases k with
  | int k =>
    simp only [FK.fits] at hf
    split at hf
    · rename_i k' hu
      obtain rfl := of_decide_eq_true hf
      obtain ⟨z, hz, _, hw⟩ := DataW.trod_int hu h
      obtain rfl : v = .int k' z := by simpa using hz
      exact ⟨rfl, hw⟩
    · cases hf
  | bool =>
    simp only [FK.fits] at hf
    split at hf
    · rename_i hu
      obtain ⟨b, hb, _⟩ := DataW.trod_bool hu h
      obtain rfl : v = .bool b := by simpa using hb
      cases b <;> exact ⟨rfl, rfl⟩
    · cases hf

/-- the cells of one such struct -/
theorem struct_fk {e : TypeId} {fs : Array Field} {ks : List FK} {fuel : Nat} {cs : List Value} {x : DataW H × List MemPlace} (he : P.underlying e = some (.struct fs)) (hfl : flatFK P fs ks = true)
    (h : DataW.trod enc P w base spare held fuel e cs = some x) (hl : cs.length = ks.length) :
    ∀ (j : Nat) (k : FK), ks[j]? = some k → ∃ z, cs[j]? = some (k.val z) ∧ k.ok z = true := by
  intro j k hk
  obtain ⟨ys, n, _, _, hlen, hyl, hf⟩ := DataW.trod_struct he h
  obtain ⟨f, hj, ho, hc, hu⟩ := flatFK_at hfl hk
  have h1 := hf j f hj
  have hjl : j < cs.length := by rw [hl]; exact (List.getElem?_eq_some_iff.1 hk).1
  have hjy : j < ys.length := by rw [hyl]; exact (Array.getElem?_eq_some_iff.1 hj).1
  have h2 : (cs.drop j).take 1 = [cs[j]] := by rw [List.drop_eq_getElem_cons hjl]; rfl
  rw [ho, hc, h2, List.getElem?_eq_getElem hjy] at h1
  obtain ⟨h3, h4⟩ := cell_fk hu h1
  exact ⟨numOf cs[j], by rw [List.getElem?_eq_getElem hjl, ← h3], h4⟩

/-- an argument that is such a struct, its numbers in a list -/
theorem open_struct_fk {r : Reach} {b0 : Nat} {e : TypeId} {fs : Array Field} {ks : List FK} {v : Value} {d : DataW H} {p : List MemPlace} (he : P.underlying e = some (.struct fs)) (hfl : flatFK P fs ks = true) (hC : P.cellsOf e = ks.length)
    (hv : Value.okWide P w r b0 e v) (h : DataW.Trod enc P w base spare held e v d p) :
    ∃ zs : List Int, v = .agg (List.zipWith FK.val ks zs).toArray ∧ zs.length = ks.length ∧ ∀ (j : Nat) (k : FK), ks[j]? = some k → k.ok (zs.getD j 0) = true := by
  obtain ⟨⟨cs⟩, rfl, hsz⟩ := okWide_struct he hv
  have hl : cs.length = ks.length := by rw [← hC, ← hsz]; rfl
  obtain ⟨fuel, hf⟩ := h
  have hc := struct_fk he hfl (by simpa [Value.cells] using hf) hl
  have hn : ∀ (k : FK) (z : Int), k.ok z = true → k.val (numOf (k.val z)) = k.val z ∧ k.ok (numOf (k.val z)) = true := by
    intro k z hz
    cases k with
    | int k => exact ⟨rfl, hz⟩
    | bool => by_cases h : z = 1 <;> simp [FK.val, FK.ok, numOf, h]
  refine ⟨cs.map numOf, ?_, by simpa using hl, fun j k hk => ?_⟩
  · congr 2
    apply List.ext_getElem?
    intro j
    rw [List.getElem?_zipWith]
    by_cases hj : j < ks.length
    · obtain ⟨z, hz, hok⟩ := hc j ks[j] (List.getElem?_eq_getElem hj)
      simp only [List.getElem?_map, hz, List.getElem?_eq_getElem hj, Option.map_some]
      rw [(hn _ _ hok).1]
    · rw [List.getElem?_eq_none (by omega), List.getElem?_eq_none (by omega)]
  · obtain ⟨z, hz, hw⟩ := hc j k hk
    have h2 := (hn _ _ hw).2
    simpa [hz] using h2

/-- a row of such structs that lies in the world, or nil -/
structure StructsK (w : World) (ks : List FK) (sa : Option Addr) (len : Nat) (Z : Nat → Nat → Int) : Prop where
  empty : sa = none → len = 0
  cell : ∀ a, sa = some a → ∀ i, i < len → ∀ (j : Nat) (k : FK), ks[j]? = some k → w.cell? (a.add (i * ks.length + j)) = some (k.val (Z i j)) ∧ k.ok (Z i j) = true

theorem StructsK.at {w : World} {ks : List FK} {sa : Option Addr} {len : Nat} {Z : Nat → Nat → Int} (h : StructsK w ks sa len Z) (hk : 0 < ks.length) :
    len = 0 ∨ ∃ b o, sa = some ⟨b, o, none⟩ ∧ ∀ i, i < len → ∀ (j : Nat) (k : FK), ks[j]? = some k → w.cell? ⟨b, o + (i * ks.length + j), none⟩ = some (k.val (Z i j)) ∧ k.ok (Z i j) = true := by
  rcases Nat.eq_zero_or_pos len with h0 | h0
  · exact .inl h0
  · cases sa with
    | none => exact .inl (h.empty rfl)
    | some a =>
      have hc := (h.cell a rfl 0 h0 0 _ (List.getElem?_eq_getElem hk)).1
      have ha : a.add (0 * ks.length + 0) = a := by simp [Addr.add]
      rw [ha] at hc
      have hsp := spot_of_cell hc
      refine .inr ⟨a.block, a.off, by rw [← hsp], fun i hi j k hj => ?_⟩
      have hcj := h.cell a rfl i hi j k hj
      rw [hsp, Go.Addr.add_lit] at hcj
      exact hcj

def cellN (w : World) (a : Addr) : Int := match w.cell? a with
  | some v => numOf v
  | none => 0

/-- an argument that is a slice of such structs -/
theorem open_slice_fk {t e : TypeId} {fs : Array Field} {ks : List FK} {sa : Option Addr} {len cap : Nat} {d : DataW H} {p : List MemPlace} (ht : P.underlying t = some (.slice e)) (he : P.underlying e = some (.struct fs))
    (hfl : flatFK P fs ks = true) (hC : P.cellsOf e = ks.length) (h : DataW.Trod enc P w base spare held t (.slice sa len cap) d p) :
    (len ≤ cap ∧ cap ≤ maxLen ∧ (sa = none → cap = 0)) ∧ ∃ Z, StructsK w ks sa len Z := by
  obtain ⟨fuel, hf⟩ := h
  rcases open_slice ht hf with ⟨h0, _⟩ | ⟨a, len', cap', m, n, D, Pl, hcs, hb, hl, hm, hmm, hx, hi⟩
  · simp only [Value.cells, List.cons.injEq, Value.slice.injEq, and_true] at h0
    obtain ⟨rfl, rfl, rfl⟩ := h0
    exact ⟨⟨Nat.le_refl _, by unfold maxLen; omega, fun _ => rfl⟩, fun _ _ => 0, ⟨fun _ => rfl, (fun a ha => nomatch ha)⟩⟩
  · simp only [Value.cells, List.cons.injEq, Value.slice.injEq, and_true] at hcs
    obtain ⟨rfl, rfl, rfl⟩ := hcs
    refine ⟨⟨hl, hm, (fun h => nomatch h)⟩, fun i j => cellN w (a.add (i * ks.length + j)), ⟨(fun h => nomatch h), fun a' ha i him j k hk => ?_⟩⟩
    obtain rfl : a = a' := by simpa using ha
    have hlm : len ≤ m := by rw [hmm]; split <;> omega
    obtain ⟨cs', hc, ht'⟩ := hi i (by omega)
    rw [hC] at hc
    obtain ⟨_, hcl, hat⟩ := World.cells?_some hc
    obtain ⟨z, hz, hwf⟩ := struct_fk he hfl ht' hcl j k hk
    have hcell := hat j (List.getElem?_eq_some_iff.1 hk).1
    rw [Go.Deep.add_add, hz] at hcell
    have hZ : cellN w (a.add (i * ks.length + j)) = numOf (k.val z) := by unfold cellN; rw [hcell]
    have h2 : k.val (numOf (k.val z)) = k.val z ∧ k.ok (numOf (k.val z)) = true := by
      cases k with
      | int k => exact ⟨rfl, hwf⟩
      | bool => by_cases h : z = 1 <;> simp [FK.val, FK.ok, numOf, h]
    exact ⟨by rw [hZ, h2.1]; exact hcell, by rw [hZ]; exact h2.2⟩
end
end Go.Proofs.Ytmnephejhkfchaa
