/- A plan of the program and a plan of the reference, side by side, apart from each other: what a call of the one, or of the other, leaves of both. -/
import Derived.Test.YtagobcecieplfaaPlanLaw
namespace Go.Proofs.Ytagobcecieplfaa
open Go.RowKit
set_option linter.unusedVariables false

/-- the program's plan lies at q, the reference's two lists, hv and vv, in the variable r -/
structure LSt (w0 : World) (p r : Nat) (t : Int) (hs1 vs1 hs2 vs2 : List Int) (q : Pl) (hv vv : Value) (w : World) : Prop where
  hp : q.p = p
  plan : PlanAt w q t hs1 vs1
  obj : w.heap[r]? = some (.cells #[hv, vv] 29 (0, 0))
  rows : TwoAt w hv vv hs2.length hs2.length hs2 vs2
  ap : ∀ b, q.F b → ¬ PF r hv vv b
  low : ¬ TF hv vv r
  n1 : ∀ b, q.F b → w0.heap.size ≤ b
  n2 : ∀ b, PF r hv vv b → w0.heap.size ≤ b
  wrote : Wrote Nil w0 w
namespace LSt
variable {w0 w w' : World} {p r : Nat} {t : Int} {hs1 vs1 hs2 vs2 : List Int} {q : Pl} {hv vv : Value}
theorem lt2 (h : LSt w0 p r t hs1 vs1 hs2 vs2 q hv vv w) {b : Nat} (hb : PF r hv vv b) : b < w.heap.size := by
  rcases hb with rfl | x
  · exact blk_lt h.obj
  · exact h.rows.lt x
theorem after (h : LSt w0 p r t hs1 vs1 hs2 vs2 q hv vv w) (k : Wrote Nil w w') : LSt w0 p r t hs1 vs1 hs2 vs2 q hv vv w' :=
  ⟨h.hp, h.plan.after k, (k.block r (blk_lt h.obj) id).trans h.obj, h.rows.after k, h.ap, h.low, h.n1, h.n2, h.wrote.nil k⟩
end LSt

theorem ls_begin {w0 w : World} {p : Nat} {t : Int} (h : NewSt w0 p t [] [] w) :
    ∃ q, LSt w0 p w.heap.size t [] [] [] [] q (.slice none 0 0) (.slice none 0 0) (w.alloc (.cells #[.slice none 0 0, .slice none 0 0] 29)) := by
  obtain ⟨q, hp, hP, hF, hW⟩ := h
  have hA : Wrote Nil w (w.alloc (.cells #[.slice none 0 0, .slice none 0 0] 29)) := (Wrote.refl _ _).alloc _
  have hT : ∀ b, ¬ TF (.slice none 0 0) (.slice none 0 0) b := fun b hb => by simp [TF, Value.ownBlock] at hb
  refine ⟨q, hp, hP.after hA, Go.Deep.blk_alloc_new _ _, TwoAt.empty _, fun b hb hb2 => ?_, hT _, hF, fun b hb => ?_, hW.nil hA⟩
  · have := hP.lt hb
    rcases hb2 with e | e
    · omega
    · exact hT b e
  · rcases hb with e | e
    · have := hW.size
      omega
    · exact absurd e (hT b)

/-- behind the reference's call: its cells still hold the old lists; once the new ones are stored there, both plans are as they should be -/
def RefPost (w0 : World) (p r : Nat) (t : Int) (hs1 vs1 hs2 vs2 hs3 vs3 : List Int) (q : Pl) (hv vv : Value) (X : World) (e : Ending) (w' : World) : Prop :=
  ∃ so cp sv cv, e = .returned (.tuple #[.agg #[.slice so hs3.length cp, .slice sv hs3.length cv], .int .i64 (hs2.length : Nat)]) ∧ w'.heap[r]? = some (.cells #[hv, vv] 29 (0, 0)) ∧
    (∀ b, b < X.heap.size → ¬ TF hv vv b → w'.heap[b]? = X.heap[b]?) ∧
    LSt w0 p r t hs1 vs1 hs3 vs3 q (.slice so hs3.length cp) (.slice sv hs3.length cv) ((w'.setCell ⟨r, 0, none⟩ (.slice so hs3.length cp)).setCell ⟨r, 1, none⟩ (.slice sv hs3.length cv))

theorem ls_ref {w0 X : World} {p r : Nat} {t : Int} {hs1 vs1 hs2 vs2 : List Int} {q : Pl} {hv vv : Value} (h : LSt w0 p r t hs1 vs1 hs2 vs2 q hv vv X) (n home v : Int) (hL : hs2.length ≤ 900000) :
    Calls Try.prog 7 #[.agg #[hv, vv], .int .i64 n, .int .i64 home, .int .u32 v] X (RefPost w0 p r t hs1 vs1 hs2 vs2 (hs2 ++ List.replicate (rowN n) home) (vs2 ++ List.replicate (rowN n) v) q hv vv X) := by
  refine (rrow_any h.rows n home v hL).mono ?_
  rintro e w' ⟨hv', vv', rfl, hT, hW, hC⟩
  rw [refN_eq] at hT
  have hl : (hs2 ++ List.replicate (rowN n) home).length = hs2.length + rowN n := by simp
  obtain ⟨so, cp, rfl⟩ := own_form hT.homes
  obtain ⟨sv, cv, rfl⟩ := own_form hT.values
  rw [← hl] at hT hC ⊢
  generalize hs2 ++ List.replicate (rowN n) home = hs3 at hT hC hl ⊢
  generalize vs2 ++ List.replicate (rowN n) v = vs3 at hT ⊢
  have hr := blk_lt h.obj
  have hobj : w'.heap[r]? = some (.cells #[hv, vv] 29 (0, 0)) := (hW.block r hr h.low).trans h.obj
  have hlow : ¬ TF (.slice so hs3.length cp) (.slice sv hs3.length cv) r := fun e => by
    rcases hC r e with x | x
    · exact h.low x
    · omega
  have hS : Wrote (One r) w' ((w'.setCell ⟨r, 0, none⟩ (.slice so hs3.length cp)).setCell ⟨r, 1, none⟩ (.slice sv hs3.length cv)) := ((Wrote.refl (One r) w').setCell ⟨r, 0, none⟩ _ fun _ => rfl).setCell ⟨r, 1, none⟩ _ fun _ => rfl
  have hA : Wrote (PF r hv vv) X ((w'.setCell ⟨r, 0, none⟩ (.slice so hs3.length cp)).setCell ⟨r, 1, none⟩ (.slice sv hs3.length cv)) := (hW.mono (T := PF r hv vv) fun b _ x => .inr x).trans hS fun b _ x => .inl x
  refine ⟨so, cp, sv, cv, rfl, hobj, fun b hb hn => hW.block b hb hn, h.hp, h.plan.wrote hA fun b hb x => h.ap b hb x, ?_, hT.wrote hS fun b hb e => hlow (by cases e; exact hb), fun b hb x => ?_, hlow, h.n1, fun b hb => ?_, h.wrote.trans hA fun b hb x => absurd (h.n2 b x) (by omega)⟩
  · rw [blk_setCell (by rw [blk_setCell hobj])]
    rfl
  · rcases x with x | x
    · exact h.ap b hb (.inl x)
    · rcases hC b x with y | y
      · exact h.ap b hb (.inr y)
      · have := h.plan.lt hb
        omega
  · rcases hb with x | x
    · exact h.n2 b (.inl x)
    · rcases hC b x with y | y
      · exact h.n2 b (.inr y)
      · have := h.wrote.size
        omega

/-- behind a call of the program -/
def PlPost (w0 : World) (p r : Nat) (t : Int) (hs1 vs1 hs2 vs2 : List Int) (hv vv : Value) (L : Nat) (e : Ending) (w' : World) : Prop :=
  e = .returned (.int .i64 (L : Nat)) ∧ ∃ q, LSt w0 p r t hs1 vs1 hs2 vs2 q hv vv w'
theorem ls_plan {w0 w w' : World} {p r : Nat} {t : Int} {hs1 vs1 hs2 vs2 hs3 vs3 : List Int} {q : Pl} {hv vv : Value} {L : Nat} {e : Ending} (h : LSt w0 p r t hs1 vs1 hs2 vs2 q hv vv w) (k : PlanPost w q t hs3 vs3 (.int .i64 (L : Nat)) e w') :
    PlPost w0 p r t hs3 vs3 hs2 vs2 hv vv L e w' := by
  obtain ⟨rfl, q', hp', hP, hW, hC⟩ := k
  refine ⟨rfl, q', hp'.trans h.hp, hP, (hW.block r (blk_lt h.obj) fun x => h.ap r x (.inl rfl)).trans h.obj, h.rows.wrote hW fun b hb x => h.ap b x (.inr hb), fun b hb x => ?_, h.low, fun b hb => ?_, h.n2, h.wrote.trans hW fun b hb x => absurd (h.n1 b x) (by omega)⟩
  · rcases hC b hb with y | y
    · exact h.ap b y x
    · have := h.lt2 x
      omega
  · rcases hC b hb with y | y
    · exact h.n1 b y
    · have := h.wrote.size
      omega
theorem ls_word {w0 w : World} {p r : Nat} {t : Int} {hs1 vs1 hs2 vs2 : List Int} {q : Pl} {hv vv : Value} (h : LSt w0 p r t hs1 vs1 hs2 vs2 q hv vv w) (home v : Int) (hL : hs1.length ≤ 900000) :
    Calls Try.prog 8 #[.pointer (some ⟨p, 0, none⟩), .int .i64 home, .int .u32 v] w (PlPost w0 p r t (hs1 ++ List.replicate (rowN 1) home) (vs1 ++ List.replicate (rowN 1) v) hs2 vs2 hv vv hs1.length) := by
  have c := plword_any h.plan home v (by omega)
  rw [h.hp] at c
  exact c.mono fun e w' k => ls_plan h k
theorem ls_row {w0 w : World} {p r : Nat} {t : Int} {hs1 vs1 hs2 vs2 : List Int} {q : Pl} {hv vv : Value} (h : LSt w0 p r t hs1 vs1 hs2 vs2 q hv vv w) (n home v : Int) (hL : hs1.length ≤ 900000) :
    Calls Try.prog 9 #[.pointer (some ⟨p, 0, none⟩), .int .i64 n, .int .i64 home, .int .u32 v] w (PlPost w0 p r t (hs1 ++ List.replicate (rowN n) home) (vs1 ++ List.replicate (rowN n) v) hs2 vs2 hv vv hs1.length) := by
  have c := plrow_any h.plan n home v hL
  rw [h.hp] at c
  exact c.mono fun e w' k => ls_plan h k
theorem ls_len {w0 w : World} {p r : Nat} {t : Int} {hs1 vs1 hs2 vs2 : List Int} {q : Pl} {hv vv : Value} (h : LSt w0 p r t hs1 vs1 hs2 vs2 q hv vv w) :
    Calls Try.prog 10 #[.pointer (some ⟨p, 0, none⟩)] w fun e w' => e = .returned (.int .i64 (hs1.length : Nat)) ∧ w' = w := by
  have c := pllen_any h.plan
  rw [h.hp] at c
  exact c

/-- both at the loop's head: the same words -/
def Lp (w0 : World) (p r : Nat) (t : Int) (j : Nat) (w : World) : Prop :=
  ∃ hs vs q so cp sv cv, LSt w0 p r t hs vs hs vs q (.slice so hs.length cp) (.slice sv hs.length cv) w ∧ hs.length ≤ j * 4097 ∧ ∀ z ∈ vs, 0 ≤ z ∧ z < 4294967296
theorem lp_next {w0 w : World} {p r : Nat} {t : Int} {j : Nat} {hs vs : List Int} {n home v : Int} {q : Pl} {so sv : Option Addr} {cp cv : Nat}
    (h : LSt w0 p r t (hs ++ List.replicate (rowN n) home) (vs ++ List.replicate (rowN n) v) (hs ++ List.replicate (rowN n) home) (vs ++ List.replicate (rowN n) v) q (.slice so (hs ++ List.replicate (rowN n) home).length cp) (.slice sv (hs ++ List.replicate (rowN n) home).length cv) w)
    (hl : hs.length ≤ j * 4097) (hv : ∀ z ∈ vs, 0 ≤ z ∧ z < 4294967296) (v0 : 0 ≤ v ∧ v < 4294967296) : Lp w0 p r t (j + 1) w := by
  refine ⟨_, _, _, _, _, _, _, h, ?_, fun z hz => ?_⟩
  · have : rowN n ≤ 4097 := by unfold rowN; omega
    simp only [List.length_append, List.length_replicate]
    omega
  · rcases List.mem_append.1 hz with x | x
    · exact hv z x
    · rw [List.eq_of_mem_replicate x]
      exact v0
/-- what the walk reads behind the reference's call -/
theorem ref_cells {wr w3 : World} {r : Nat} {hv vv s s' : Value} {cs : Array Value} {T : TypeId} (hr : r < wr.heap.size) (ht : ∀ b, TF hv vv b → b < wr.heap.size)
    (hb : ∀ b, b < (wr.alloc (.cells cs T)).heap.size → ¬ TF hv vv b → w3.heap[b]? = (wr.alloc (.cells cs T)).heap[b]?) (ho : w3.heap[r]? = some (.cells #[hv, vv] 29 (0, 0))) :
    w3.cell? ⟨r, 0, none⟩ = some hv ∧ w3.cell? ⟨r, 1, none⟩ = some vv ∧ w3.frozen? ⟨r, 0, none⟩ = false ∧ w3.frozen? ⟨r, 1, none⟩ = false ∧ ∀ i, ((w3.setCell ⟨r, 0, none⟩ s).setCell ⟨r, 1, none⟩ s').cell? ⟨wr.heap.size, i, none⟩ = cs[i]? := by
  refine ⟨(blk_cell ho 0).trans rfl, (blk_cell ho 1).trans rfl, blk_frozen ho 0, blk_frozen ho 1, fun i => blk_cell (t := T) ?_ i⟩
  rw [Go.Deep.blk_setCell_other _ _ _ _ (show wr.heap.size ≠ r by omega), Go.Deep.blk_setCell_other _ _ _ _ (show wr.heap.size ≠ r by omega),
    hb _ (by rw [Go.Deep.nblk_alloc]; omega) (fun e => absurd (ht _ e) (by omega)), Go.Deep.blk_alloc_new]
end Go.Proofs.Ytagobcecieplfaa
