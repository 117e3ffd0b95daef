/- A row of the call's own that grows, where nothing that was there turns; no program is named. -/
import Derived.Test.YtmnephejhkfchaaRecs
namespace Go.Proofs.Ytmnephejhkfchaa
open Go.RowKit
set_option linter.unusedVariables false

/-- dv owns a row of n things, the cells xs, in memory from base on; of the memory of w0 nothing has turned -/
structure Grow (e : TypeId) (s : Nat) (w0 : World) (base : Nat) (w : World) (n : Nat) (xs : List Value) (dv : Value) : Prop where
  own : w.ownsRow base e s dv n xs
  wrote : Wrote Nil w0 w
  size : base ≤ w.heap.size
  low : w0.heap.size ≤ base
namespace Grow
variable {e : TypeId} {s : Nat} {w0 : World} {base : Nat} {w w' : World} {n : Nat} {xs : List Value} {dv : Value}
theorem lt (h : Grow e s w0 base w n xs dv) : ∀ k, dv.ownBlock = some k → base ≤ k ∧ k < w.heap.size := fun k hk => h.own.lt k hk
theorem after (h : Grow e s w0 base w n xs dv) (k : Wrote Nil w w') : Grow e s w0 base w' n xs dv :=
  ⟨ownsRow_keep h.own (fun j hj => k.block j (h.lt j hj).2 id), h.wrote.nil k, Nat.le_trans h.size k.size, h.low⟩
/-- behind an append -/
theorem more (h : Grow e s w0 base w n xs dv) {m : Nat} {news : List Value} {v' : Value} (ho : w'.ownsRow base e s v' (n + m) (xs ++ news)) (hg : w.grownBy w' dv.ownBlock) : Grow e s w0 base w' (n + m) (xs ++ news) v' :=
  ⟨ho, h.wrote.grown hg (fun k hk hl => by have := (h.lt k hk).1; have := h.low; omega), Nat.le_trans h.size hg.size, h.low⟩
theorem form (h : Grow e s w0 base w n xs dv) : ∃ sa cap, dv = .slice sa n cap := by
  rcases h.own.2 with ⟨rfl, rfl⟩ | ⟨g, cap, cur, rfl, _⟩
  · exact ⟨none, 0, rfl⟩
  · exact ⟨some ⟨g, 0, none⟩, cap, rfl⟩
end Grow
theorem grow_new (e : TypeId) (s : Nat) (w0 w : World) (h : Wrote Nil w0 w) : Grow e s w0 w0.heap.size w 0 [] (.slice none 0 0) := ⟨World.ownsRow_nil _ _ _ _, h, h.size, Nat.le_refl _⟩
theorem grow_here (e : TypeId) (s : Nat) (w : World) : Grow e s w w.heap.size w 0 [] (.slice none 0 0) := grow_new e s w w (Wrote.refl _ _)

/-- the cells of a new block, one for one -/
theorem news_at (w : World) (cs : List Value) (t : TypeId) (b : Nat) (hb : b = w.heap.size) : ∀ (j : Nat) (u : Value), cs[j]? = some u → (w.alloc (.cells cs.toArray t)).cell? ((⟨b, 0, none⟩ : Addr).add j) = some u := by
  subst hb
  intro j u hu
  rw [Go.Addr.add_lit, Nat.zero_add, blk_cell (Go.Deep.blk_alloc_new w _)]
  simpa using hu

/-- a part of a row, from k on -/
theorem RowAt.drop {k : IntKind} {w : World} {b o m : Nat} {hs : List Int} (h : RowAt k w (some ⟨b, o, none⟩) m hs) (j : Nat) (hj : j ≤ m) : RowAt k w (some ⟨b, o + j, none⟩) (m - j) (hs.drop j) := by
  refine ⟨by simp [h.len], (fun h => nomatch h), fun a ha i hi => ?_⟩
  obtain rfl : ⟨b, o + j, none⟩ = a := by simpa using ha
  have hc := h.cell _ rfl (j + i) (by omega)
  rw [Go.Addr.add_lit] at hc ⊢
  rw [Nat.add_assoc, hc]
  simp
/-- a part of a row, as the slice expression leaves its address -/
theorem RowAt.cut {k : IntKind} {w : World} {sa : Option Addr} {m : Nat} {hs : List Int} (h : RowAt k w sa m hs) (j c : Nat) (hj : j ≤ m) (hm : 0 < m) (hc : m ≤ c) :
    RowAt k w (if c = j then sa else Option.map (fun x => x.add j) sa) (m - j) (hs.drop j) := by
  rcases h.at with h0 | ⟨b, o, rfl, _⟩
  · omega
  · split
    · obtain rfl : m = j := by omega
      exact ⟨by simp [h.len], (fun h => nomatch h), fun a ha i hi => by omega⟩
    · rw [Option.map_some, Go.Addr.add_lit]
      exact h.drop j hj
/-- how long a slice is -/
def lenV : Value → Nat
  | .slice _ n _ => n
  | _ => 0
theorem info_parts3 {P : Program} {t : TypeId} {z : Value} {s b : Nat} (h : (P.info? t).map (fun i => (i.zero, i.size, i.bytes)) = some (some z, s, b)) : ∃ i, P.info? t = some i ∧ i.zero = some z ∧ i.size = s ∧ i.bytes = b := by
  simp only [Option.map_eq_some_iff, Prod.mk.injEq] at h
  obtain ⟨i, h1, h2, h3, h4⟩ := h
  exact ⟨i, h1, h2, h3, h4⟩
end Go.Proofs.Ytmnephejhkfchaa
