/- A lock beside the law's own queue, as it grows and is made anew; no walk. -/
import Derived.Test.YtilkihdpokfenaaFlatLaw
import Derived.Test.YtilkihdpokfenaaFlatOrd
import Derived.Test.YtilkihdpokfenaaGrow
namespace Go.Proofs.Ytilkihdpokfenaa
open Go.RowKit
set_option linter.unusedVariables false
set_option maxRecDepth 100000

def natV (k : Nat) : Value := .int .i64 (k : Int)
structure RdQ (w0 w : World) (L : Lp) (f : FL) (W : List Nat) (qv : Value) : Prop where
  ls : LkS w0 w L f
  q : w.ownsRow L.q.k3 3 1 qv W.length (W.map natV)
namespace RdQ
variable {w0 w w' : World} {L : Lp} {f f' : FL} {W : List Nat} {qv : Value}
theorem lt (h : RdQ w0 w L f W qv) : ∀ k, qv.ownBlock = some k → L.q.k3 ≤ k ∧ k < w.heap.size := fun k hk => h.q.lt k hk
theorem after (h : RdQ w0 w L f W qv) (k : Wrote Nil w w') : RdQ w0 w' L f W qv := ⟨h.ls.after k, ownsRow_keep h.q fun j hj => k.block j (h.lt j hj).2 id⟩
theorem drew (h : RdQ w0 w L f W qv) : RdQ w0 w.drew L f W qv := h.after ((Wrote.refl _ w).drew)
/-- behind a call of the lock -/
theorem call (h : RdQ w0 w L f W qv) (hl : LkS w0 w' L f') (k : Wrote (Low L) w w') : RdQ w0 w' L f' W qv :=
  ⟨hl, ownsRow_keep h.q fun j hj => k.block j (h.lt j hj).2 fun e => by have := (h.lt j hj).1; unfold Low at e; omega⟩
theorem empty (h : LkS w0 w L f) : RdQ w0 w L f [] (.slice none 0 0) := ⟨h, World.ownsRow_nil _ _ _ _⟩
theorem form (h : RdQ w0 w L f W qv) : ∃ sa cap, qv = .slice sa W.length cap := by
  rcases h.q.2 with ⟨rfl, e⟩ | ⟨g, cap, cur, rfl, _⟩
  · exact ⟨none, 0, by rw [e]⟩
  · exact ⟨some ⟨g, 0, none⟩, cap, rfl⟩
theorem push (h : RdQ w0 w L f W qv) {k : Nat} {v' : Value} (ho : w'.ownsRow L.q.k3 3 1 v' (W.length + 1) (W.map natV ++ [natV k])) (hg : w.grownBy w' qv.ownBlock) : RdQ w0 w' L f (W ++ [k]) v' := by
  refine ⟨h.ls.apart (S := fun j => qv.ownBlock = some j) ((Wrote.refl _ w).grown hg fun j hj _ => hj) fun b hb => (h.lt b hb).1, ?_⟩
  rw [List.length_append, List.length_singleton, List.map_append]
  exact ho
/-- its cells -/
theorem cell {sa : Option Addr} {n cap : Nat} (h : RdQ w0 w L f W (.slice sa n cap)) (hn : n = W.length) (h0 : 0 < W.length) : ∃ g, sa = some ⟨g, 0, none⟩ ∧ ∀ i (k : Nat), W[i]? = some k → w.cell? ⟨g, i, none⟩ = some (.int .i64 k) := by
  subst hn
  obtain ⟨g, hg, _, _⟩ := ownsRow_cell h.q h0
  refine ⟨g, hg, fun i k hk => ?_⟩
  obtain ⟨g2, hg2, hc, _⟩ := ownsRow_cell h.q (List.getElem?_eq_some_iff.1 hk).1
  rw [hg] at hg2
  obtain rfl : g = g2 := by simpa using hg2
  rw [hc, List.getElem?_map, hk]
  rfl
end RdQ

/-- a second row that is made while the first is read -/
structure RdL (w0 w : World) (L : Lp) (f : FL) (W : List Nat) (qv : Value) (base : Nat) (V : List Nat) (lv : Value) : Prop where
  r : RdQ w0 w L f W qv
  l : w.ownsRow base 3 1 lv V.length (V.map natV)
  low : L.q.k3 ≤ base ∧ base ≤ w.heap.size ∧ ∀ k, qv.ownBlock = some k → k < base
namespace RdL
variable {w0 w w' : World} {L : Lp} {f : FL} {W V : List Nat} {qv lv : Value} {base : Nat}
theorem start (h : RdQ w0 w L f W qv) : RdL w0 w L f W qv w.heap.size [] (.slice none 0 0) :=
  ⟨h, World.ownsRow_nil _ _ _ _, h.ls.lk.top, Nat.le_refl _, fun k hk => (h.lt k hk).2⟩
theorem lt (h : RdL w0 w L f W qv base V lv) : ∀ k, lv.ownBlock = some k → base ≤ k ∧ k < w.heap.size := fun k hk => h.l.lt k hk
theorem after (h : RdL w0 w L f W qv base V lv) (k : Wrote Nil w w') : RdL w0 w' L f W qv base V lv :=
  ⟨h.r.after k, ownsRow_keep h.l fun j hj => k.block j (h.lt j hj).2 id, h.low.1, Nat.le_trans h.low.2.1 k.size, h.low.2.2⟩
theorem push (h : RdL w0 w L f W qv base V lv) {k : Nat} {v' : Value} (ho : w'.ownsRow base 3 1 v' (V.length + 1) (V.map natV ++ [natV k])) (hg : w.grownBy w' lv.ownBlock) : RdL w0 w' L f W qv base (V ++ [k]) v' := by
  have hW : Wrote (fun j => lv.ownBlock = some j) w w' := (Wrote.refl _ w).grown hg fun j hj _ => hj
  refine ⟨⟨h.r.ls.apart hW fun b hb => Nat.le_trans h.low.1 (h.lt b hb).1, ownsRow_keep h.r.q fun j hj => hW.block j (h.r.lt j hj).2 fun e => ?_⟩, ?_, h.low.1, Nat.le_trans h.low.2.1 hW.size, h.low.2.2⟩
  · have := (h.lt j e).1
    have := h.low.2.2 j hj
    omega
  · rw [List.length_append, List.length_singleton, List.map_append]
    exact ho
theorem done (h : RdL w0 w L f W qv base V lv) : RdQ w0 w L f V lv := ⟨h.r.ls, ownsRow_base h.l h.low.1⟩
end RdL

/-! ### what holds of the lock and the law's queue -/
def OrdI (f : FL) (W : List Nat) : Prop := ∃ g nx ow, OrdJ f g W nx ow
namespace OrdI
variable {f : FL} {W : List Nat} {L : Lp}
theorem lock (h : OrdI f W) (t d : Int) : OrdI (f.lock t d) W := by obtain ⟨g, nx, ow, h⟩ := h; exact ⟨g, nx, ow, h.lock t d⟩
theorem unlock (h : OrdI f W) (t : Int) : OrdI (f.turn t 3) W := by obtain ⟨g, nx, ow, h⟩ := h; exact ⟨g, nx, ow, h.turn t 3 (.inl rfl)⟩
theorem probe (h : OrdI f W) (t : Int) : OrdI (f.probe t) W := by obtain ⟨g, nx, ow, h⟩ := h; exact ⟨g, nx, ow, h.probe t⟩
theorem step (h : OrdI f W) (h1 : L.a1 = 0) (h2 : L.a2 = 1) (t : Int) : ∃ W', OrdI (f.step L t t) W' ∧ (f.step L t t).ps.D.length ≤ f.ps.D.length + 1 ∧ OrdJ.StepQ W t (f.did L t t) W' := by
  obtain ⟨g, nx, ow, h⟩ := h
  obtain ⟨g', W', nx', ow', a, b, c⟩ := h.step h1 h2 t
  exact ⟨W', ⟨g', nx', ow', a⟩, b, c⟩
theorem n8 (h : OrdI f W) : f.s.n ≤ 8 := by obtain ⟨g, nx, ow, h⟩ := h; exact h.n8
theorem len (h : OrdI f W) : W.length ≤ 8 := by
  obtain ⟨g, nx, ow, h⟩ := h
  have := h.len
  rw [List.length_append] at this
  omega
theorem one (h : OrdI f W) {j k : Nat} (hj : j < f.s.n) (hk : k < f.s.n) (ej : f.s.st j = 2) (ek : f.s.st k = 2) : j = k := by
  obtain ⟨g, nx, ow, h⟩ := h
  have h1 := h.held hj (.inl ej)
  have h2 := h.held hk (.inl ek)
  rw [h1] at h2
  simpa using h2
end OrdI
theorem ord_new (n t : Nat) (v : Int) (hn : n ≤ 8) (ht : t = n) (hv : 0 ≤ v ∧ v < 4294967296) : OrdJ (newF n t v) none [] v v := by
  subst ht
  refine ⟨hn, rfl, by simp [newF, newS, newSeat], hv, by simp, by simp, by simp, ?_, fun k hk => by simp [newF], fun k hk => by simp at hk, by simp, fun k hk _ => .inl rfl⟩
  simp only [Option.toList_none, List.nil_append, List.length_nil]
  omega
end Go.Proofs.Ytilkihdpokfenaa
