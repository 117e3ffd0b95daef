/- A lock beside the law's own queue, as it grows and is made anew; no walk. -/
import Derived.Test.YteacdcdjdbobnaaLockFine
import Derived.Test.YteacdcdjdbobnaaHierOrd
import Derived.Test.YteacdcdjdbobnaaGrow
namespace Go.Proofs.Yteacdcdjdbobnaa
open Go.RowKit
set_option linter.unusedVariables false
set_option maxRecDepth 100000

def natV (k : Nat) : Value := .int .i64 (k : Int)
structure RdQ (w0 w : World) (L : Lp) (f : FL) (W : List Nat) (qv : Value) : Prop where
  ls : LkS w0 w L f
  q : w.ownsRow L.q.k3 3 1 qv W.length (W.map natV)
namespace RdQ
variable {w0 w w' : World} {L : Lp} {f f' : FL} {W : List Nat} {qv : Value}
theorem lt (h : RdQ w0 w L f W qv) : ∀ k, qv.ownBlock = some k → L.q.k3 ≤ k ∧ k < w.heap.size := fun k hk => h.q.lt k hk
theorem after (h : RdQ w0 w L f W qv) (k : Wrote Nil w w') : RdQ w0 w' L f W qv := ⟨h.ls.after k, ownsRow_keep h.q fun j hj => k.block j (h.lt j hj).2 id⟩
theorem drew (h : RdQ w0 w L f W qv) : RdQ w0 w.drew L f W qv := h.after ((Wrote.refl _ w).drew)
/-- behind a call of the lock -/
theorem call (h : RdQ w0 w L f W qv) (hl : LkS w0 w' L f') (k : Wrote (Low L) w w') : RdQ w0 w' L f' W qv :=
  ⟨hl, ownsRow_keep h.q fun j hj => k.block j (h.lt j hj).2 fun e => by have := (h.lt j hj).1; unfold Low at e; omega⟩
theorem empty (h : LkS w0 w L f) : RdQ w0 w L f [] (.slice none 0 0) := ⟨h, World.ownsRow_nil _ _ _ _⟩
theorem form (h : RdQ w0 w L f W qv) : ∃ sa cap, qv = .slice sa W.length cap := by
  rcases h.q.2 with ⟨rfl, e⟩ | ⟨g, cap, cur, rfl, _⟩
  · exact ⟨none, 0, by rw [e]⟩
  · exact ⟨some ⟨g, 0, none⟩, cap, rfl⟩
theorem push (h : RdQ w0 w L f W qv) {k : Nat} {v' : Value} (ho : w'.ownsRow L.q.k3 3 1 v' (W.length + 1) (W.map natV ++ [natV k])) (hg : w.grownBy w' qv.ownBlock) : RdQ w0 w' L f (W ++ [k]) v' := by
  refine ⟨h.ls.apart (S := fun j => qv.ownBlock = some j) ((Wrote.refl _ w).grown hg fun j hj _ => hj) fun b hb => (h.lt b hb).1, ?_⟩
  rw [List.length_append, List.length_singleton, List.map_append]
  exact ho
/-- its cells -/
theorem cell {sa : Option Addr} {n cap : Nat} (h : RdQ w0 w L f W (.slice sa n cap)) (hn : n = W.length) (h0 : 0 < W.length) : ∃ g, sa = some ⟨g, 0, none⟩ ∧ ∀ i (k : Nat), W[i]? = some k → w.cell? ⟨g, i, none⟩ = some (.int .i64 k) := by
  subst hn
  obtain ⟨g, hg, _, _⟩ := ownsRow_cell h.q h0
  refine ⟨g, hg, fun i k hk => ?_⟩
  obtain ⟨g2, hg2, hc, _⟩ := ownsRow_cell h.q (List.getElem?_eq_some_iff.1 hk).1
  rw [hg] at hg2
  obtain rfl : g = g2 := by simpa using hg2
  rw [hc, List.getElem?_map, hk]
  rfl
end RdQ

/-- a second row that is made while the first is read -/
structure RdL (w0 w : World) (L : Lp) (f : FL) (W : List Nat) (qv : Value) (base : Nat) (V : List Nat) (lv : Value) : Prop where
  r : RdQ w0 w L f W qv
  l : w.ownsRow base 3 1 lv V.length (V.map natV)
  low : L.q.k3 ≤ base ∧ base ≤ w.heap.size ∧ ∀ k, qv.ownBlock = some k → k < base
namespace RdL
variable {w0 w w' : World} {L : Lp} {f : FL} {W V : List Nat} {qv lv : Value} {base : Nat}
theorem start (h : RdQ w0 w L f W qv) : RdL w0 w L f W qv w.heap.size [] (.slice none 0 0) :=
  ⟨h, World.ownsRow_nil _ _ _ _, h.ls.lk.top, Nat.le_refl _, fun k hk => (h.lt k hk).2⟩
theorem lt (h : RdL w0 w L f W qv base V lv) : ∀ k, lv.ownBlock = some k → base ≤ k ∧ k < w.heap.size := fun k hk => h.l.lt k hk
theorem after (h : RdL w0 w L f W qv base V lv) (k : Wrote Nil w w') : RdL w0 w' L f W qv base V lv :=
  ⟨h.r.after k, ownsRow_keep h.l fun j hj => k.block j (h.lt j hj).2 id, h.low.1, Nat.le_trans h.low.2.1 k.size, h.low.2.2⟩
theorem push (h : RdL w0 w L f W qv base V lv) {k : Nat} {v' : Value} (ho : w'.ownsRow base 3 1 v' (V.length + 1) (V.map natV ++ [natV k])) (hg : w.grownBy w' lv.ownBlock) : RdL w0 w' L f W qv base (V ++ [k]) v' := by
  have hW : Wrote (fun j => lv.ownBlock = some j) w w' := (Wrote.refl _ w).grown hg fun j hj _ => hj
  refine ⟨⟨h.r.ls.apart hW fun b hb => Nat.le_trans h.low.1 (h.lt b hb).1, ownsRow_keep h.r.q fun j hj => hW.block j (h.r.lt j hj).2 fun e => ?_⟩, ?_, h.low.1, Nat.le_trans h.low.2.1 hW.size, h.low.2.2⟩
  · have := (h.lt j e).1
    have := h.low.2.2 j hj
    omega
  · rw [List.length_append, List.length_singleton, List.map_append]
    exact ho
theorem done (h : RdL w0 w L f W qv base V lv) : RdQ w0 w L f V lv := ⟨h.r.ls, ownsRow_base h.l h.low.1⟩
end RdL

end Go.Proofs.Yteacdcdjdbobnaa
