/- Whatever is called and stepped of a lock: at most one holds it, and they are granted it in the order of their Enqs. -/
import Derived.Test.YtdhpmcafekpfhaaGreatLockFine
import Derived.Test.YtdhpmcafekpfhaaGreatAbortOrd
import Derived.Test.YtdhpmcafekpfhaaGreatGrow
import Derived.Deep.Cut
import Derived.Deep.CutBlock
import Derived.Deep.CutRange
import Derived.Deep.RegionHeld3
import Derived.BigQuiet
import Derived.BigFrame
namespace Go.Proofs.YtdhpmcafekpfhaaGreat
open Go.RowKit
set_option linter.unusedVariables false
set_option maxRecDepth 100000

def natV (k : Nat) : Value := .int .i64 (k : Int)
structure RdQ (w0 w : World) (L : Lp) (f : FL) (W : List Nat) (qv : Value) : Prop where
  ls : LkS w0 w L f
  q : w.ownsRow L.q.k3 3 1 qv W.length (W.map natV)
namespace RdQ
variable {w0 w w' : World} {L : Lp} {f f' : FL} {W : List Nat} {qv : Value}
theorem lt (h : RdQ w0 w L f W qv) : ∀ k, qv.ownBlock = some k → L.q.k3 ≤ k ∧ k < w.heap.size := fun k hk => h.q.lt k hk
theorem after (h : RdQ w0 w L f W qv) (k : Wrote Nil w w') : RdQ w0 w' L f W qv := ⟨h.ls.after k, ownsRow_keep h.q fun j hj => k.block j (h.lt j hj).2 id⟩
theorem drew (h : RdQ w0 w L f W qv) : RdQ w0 w.drew L f W qv := h.after ((Wrote.refl _ w).drew)
/-- behind a call of the lock -/
theorem call (h : RdQ w0 w L f W qv) (hl : LkS w0 w' L f') (k : Wrote (Low L) w w') : RdQ w0 w' L f' W qv :=
  ⟨hl, ownsRow_keep h.q fun j hj => k.block j (h.lt j hj).2 fun e => by have := (h.lt j hj).1; unfold Low at e; omega⟩
theorem empty (h : LkS w0 w L f) : RdQ w0 w L f [] (.slice none 0 0) := ⟨h, World.ownsRow_nil _ _ _ _⟩
theorem form (h : RdQ w0 w L f W qv) : ∃ sa cap, qv = .slice sa W.length cap := by
  rcases h.q.2 with ⟨rfl, e⟩ | ⟨g, cap, cur, rfl, _⟩
  · exact ⟨none, 0, by rw [e]⟩
  · exact ⟨some ⟨g, 0, none⟩, cap, rfl⟩
theorem push (h : RdQ w0 w L f W qv) {k : Nat} {v' : Value} (ho : w'.ownsRow L.q.k3 3 1 v' (W.length + 1) (W.map natV ++ [natV k])) (hg : w.grownBy w' qv.ownBlock) : RdQ w0 w' L f (W ++ [k]) v' := by
  refine ⟨h.ls.apart (S := fun j => qv.ownBlock = some j) ((Wrote.refl _ w).grown hg fun j hj _ => hj) fun b hb => (h.lt b hb).1, ?_⟩
  rw [List.length_append, List.length_singleton, List.map_append]
  exact ho
/-- its cells -/
theorem cell {sa : Option Addr} {n cap : Nat} (h : RdQ w0 w L f W (.slice sa n cap)) (hn : n = W.length) (h0 : 0 < W.length) : ∃ g, sa = some ⟨g, 0, none⟩ ∧ ∀ i (k : Nat), W[i]? = some k → w.cell? ⟨g, i, none⟩ = some (.int .i64 k) := by
  subst hn
  obtain ⟨g, hg, _, _⟩ := ownsRow_cell h.q h0
  refine ⟨g, hg, fun i k hk => ?_⟩
  obtain ⟨g2, hg2, hc, _⟩ := ownsRow_cell h.q (List.getElem?_eq_some_iff.1 hk).1
  rw [hg] at hg2
  obtain rfl : g = g2 := by simpa using hg2
  rw [hc, List.getElem?_map, hk]
  rfl
end RdQ

/-- a second row that is made while the first is read -/
structure RdL (w0 w : World) (L : Lp) (f : FL) (W : List Nat) (qv : Value) (base : Nat) (V : List Nat) (lv : Value) : Prop where
  r : RdQ w0 w L f W qv
  l : w.ownsRow base 3 1 lv V.length (V.map natV)
  low : L.q.k3 ≤ base ∧ base ≤ w.heap.size ∧ ∀ k, qv.ownBlock = some k → k < base
namespace RdL
variable {w0 w w' : World} {L : Lp} {f : FL} {W V : List Nat} {qv lv : Value} {base : Nat}
theorem start (h : RdQ w0 w L f W qv) : RdL w0 w L f W qv w.heap.size [] (.slice none 0 0) :=
  ⟨h, World.ownsRow_nil _ _ _ _, h.ls.lk.top, Nat.le_refl _, fun k hk => (h.lt k hk).2⟩
theorem lt (h : RdL w0 w L f W qv base V lv) : ∀ k, lv.ownBlock = some k → base ≤ k ∧ k < w.heap.size := fun k hk => h.l.lt k hk
theorem after (h : RdL w0 w L f W qv base V lv) (k : Wrote Nil w w') : RdL w0 w' L f W qv base V lv :=
  ⟨h.r.after k, ownsRow_keep h.l fun j hj => k.block j (h.lt j hj).2 id, h.low.1, Nat.le_trans h.low.2.1 k.size, h.low.2.2⟩
theorem push (h : RdL w0 w L f W qv base V lv) {k : Nat} {v' : Value} (ho : w'.ownsRow base 3 1 v' (V.length + 1) (V.map natV ++ [natV k])) (hg : w.grownBy w' lv.ownBlock) : RdL w0 w' L f W qv base (V ++ [k]) v' := by
  have hW : Wrote (fun j => lv.ownBlock = some j) w w' := (Wrote.refl _ w).grown hg fun j hj _ => hj
  refine ⟨⟨h.r.ls.apart hW fun b hb => Nat.le_trans h.low.1 (h.lt b hb).1, ownsRow_keep h.r.q fun j hj => hW.block j (h.r.lt j hj).2 fun e => ?_⟩, ?_, h.low.1, Nat.le_trans h.low.2.1 hW.size, h.low.2.2⟩
  · have := (h.lt j e).1
    have := h.low.2.2 j hj
    omega
  · rw [List.length_append, List.length_singleton, List.map_append]
    exact ho
theorem done (h : RdL w0 w L f W qv base V lv) : RdQ w0 w L f V lv := ⟨h.r.ls, ownsRow_base h.l h.low.1⟩
end RdL

end Go.Proofs.YtdhpmcafekpfhaaGreat
namespace Go.Proofs.YtdhpmcafekpfhaaGreat
open Go.RowKit Go.BigFrame
set_option linter.unusedVariables false
set_option maxRecDepth 100000

/-- the calls that came, as they lie in the memory that was there -/
def OpsAt (w0 : World) (so : Option Addr) (n : Nat) (z : Nat → Nat → Int) : Prop := n = 0 ∨ ∃ b o, so = some ⟨b, o, none⟩ ∧ ∀ i, i < n → ∀ j, j < 4 → w0.cell? ⟨b, o + (i * 4 + j), none⟩ = some (.int .i64 (z i j))
/-- between two of them -/
def OrdSt (w0 wr : World) (L : Lp) (k : Nat) (v7 v8 : Value) : Prop := ∃ (nw : Int) (f : FL) (W : List Nat), v7 = .int .i64 nw ∧ (0 ≤ nw ∧ nw ≤ 1000 * (k : Int)) ∧ RdQ w0 wr L f W v8 ∧ OrdI f W ∧ f.ps.D.length ≤ k
/-- behind one, ahead of the count -/
def OrdMid (w0 wr : World) (L : Lp) (k : Nat) (v8 : Value) : Prop := ∃ (f : FL) (W : List Nat), RdQ w0 wr L f W v8 ∧ OrdI f W ∧ f.ps.D.length ≤ k + 1

/-- amid the making of the queue anew, behind j of its m -/
def LeftSt (w0 wy : World) (L : Lp) (f : FL) (kk : Nat) (W : List Nat) (qv : Value) (base B : Nat) (j : Nat) (lv : Value) : Prop := RdL w0 wy L f (kk :: W) qv base (W.take (j - 1)) lv ∧ wy.cell? ⟨B, 1, none⟩ = some (.int .i64 (kk : Int)) ∧ B < base
theorem LeftSt.push {w0 wy w' : World} {L : Lp} {f : FL} {kk : Nat} {W : List Nat} {qv lv v' : Value} {base B j x : Nat} (h : LeftSt w0 wy L f kk W qv base B j lv) (h0 : 0 < j) (hx : W[j - 1]? = some x) (ho : w'.ownsRow base 3 1 v' ((W.take (j - 1)).length + 1) ((W.take (j - 1)).map natV ++ [natV x])) (hg : wy.grownBy w' lv.ownBlock) : LeftSt w0 w' L f kk W qv base B (j + 1) v' := by
  obtain ⟨hL, hB, hb⟩ := h
  have e : W.take (j + 1 - 1) = W.take (j - 1) ++ [x] := by
    rw [show j + 1 - 1 = (j - 1) + 1 by omega, List.take_add_one, hx]
    rfl
  have hW : Wrote (fun j => lv.ownBlock = some j) wy w' := (Wrote.refl _ wy).grown hg fun j hj _ => hj
  unfold LeftSt
  rw [e]
  exact ⟨hL.push ho hg, hW.cell hB fun e => by have := (hL.lt B e).1; omega, hb⟩
theorem LeftSt.skip {w0 wy : World} {L : Lp} {f : FL} {kk : Nat} {W : List Nat} {qv lv : Value} {base B : Nat} (h : LeftSt w0 wy L f kk W qv base B 0 lv) : LeftSt w0 wy L f kk W qv base B 1 lv := h
/-- amid the making of the queue anew, of one that gave up, behind j of its m -/
def GoneSt (w0 wy : World) (L : Lp) (f : FL) (kk : Nat) (W : List Nat) (qv : Value) (base B : Nat) (j : Nat) (lv : Value) : Prop := RdL w0 wy L f W qv base ((W.take j).filter fun t => decide (t ≠ kk)) lv ∧ wy.cell? ⟨B, 1, none⟩ = some (.int .i64 (kk : Int)) ∧ B < base
theorem GoneSt.push {w0 wy w' : World} {L : Lp} {f : FL} {kk : Nat} {W : List Nat} {qv lv v' : Value} {base B j x : Nat} (h : GoneSt w0 wy L f kk W qv base B j lv) (hx : W[j]? = some x) (hk : x ≠ kk) (ho : w'.ownsRow base 3 1 v' (((W.take j).filter fun t => decide (t ≠ kk)).length + 1) (((W.take j).filter fun t => decide (t ≠ kk)).map natV ++ [natV x])) (hg : wy.grownBy w' lv.ownBlock) : GoneSt w0 w' L f kk W qv base B (j + 1) v' := by
  obtain ⟨hL, hB, hb⟩ := h
  have e : ((W.take (j + 1)).filter fun t => decide (t ≠ kk)) = ((W.take j).filter fun t => decide (t ≠ kk)) ++ [x] := by
    rw [List.take_add_one, hx, List.filter_append]
    simp [hk]
  have hW : Wrote (fun j => lv.ownBlock = some j) wy w' := (Wrote.refl _ wy).grown hg fun j hj _ => hj
  unfold GoneSt
  rw [e]
  exact ⟨hL.push ho hg, hW.cell hB fun e => by have := (hL.lt B e).1; omega, hb⟩
theorem GoneSt.skip {w0 wy : World} {L : Lp} {f : FL} {kk : Nat} {W : List Nat} {qv lv : Value} {base B j : Nat} (h : GoneSt w0 wy L f kk W qv base B j lv) (hx : W[j]? = some kk) : GoneSt w0 wy L f kk W qv base B (j + 1) lv := by
  obtain ⟨hL, hB, hb⟩ := h
  have e : ((W.take (j + 1)).filter fun t => decide (t ≠ kk)) = ((W.take j).filter fun t => decide (t ≠ kk)) := by
    rw [List.take_add_one, hx, List.filter_append]
    simp
  unfold GoneSt
  rw [e]
  exact ⟨hL, hB, hb⟩
theorem filter_len8 {W : List Nat} {j kk : Nat} (h : W.length ≤ 8) : ((W.take j).filter fun t => decide (t ≠ kk)).length ≤ 8 := by
  have h1 := List.length_filter_le (fun t => decide (t ≠ kk)) (W.take j)
  have h2 : (W.take j).length ≤ W.length := by rw [List.length_take]; omega
  omega
/-- how many of the first j hold it -/
def HoldQ (f : FL) (j : Nat) (c : Int) : Prop := (c = 0 ∧ ∀ t, t < j → f.s.st t ≠ 2) ∨ (c = 1 ∧ ∃ t, t < j ∧ f.s.st t = 2)
theorem HoldQ.no {f : FL} {j : Nat} {c : Int} (h : HoldQ f j c) (hj : f.s.st j ≠ 2) : HoldQ f (j + 1) c := by
  rcases h with ⟨e, h⟩ | ⟨e, t, ht, h⟩
  · exact .inl ⟨e, fun t ht => by
      by_cases q : t = j
      · subst q; exact hj
      · exact h t (by omega)⟩
  · exact .inr ⟨e, t, by omega, h⟩
theorem HoldQ.yes {f : FL} {W : List Nat} {j : Nat} {c : Int} (hO : OrdI f W) (hn : j < f.s.n) (h : HoldQ f j c) (hj : f.s.st j = 2) : c = 0 ∧ HoldQ f (j + 1) 1 := by
  rcases h with ⟨e, h⟩ | ⟨e, t, ht, h⟩
  · exact ⟨e, .inr ⟨rfl, j, Nat.lt_succ_self j, hj⟩⟩
  · have := hO.one (show t < f.s.n by omega) hn h hj
    omega

end Go.Proofs.YtdhpmcafekpfhaaGreat
