/- How a hierarchical lock lies in the heap, and what stores do to it; no walk. -/
import Derived.Test.YteacdcdjdbobnaaGreatHierPlain
import Derived.Test.YteacdcdjdbobnaaGreatPack
namespace Go.Proofs.YteacdcdjdbobnaaGreat
open Go.RowKit
set_option linter.unusedVariables false
set_option maxRecDepth 100000

/-! ### what contexts do between steps -/
/-- nobody asks who is behind -/
def SS.Np (s : SS) : Prop := s.probed = false ∧ ∀ k, s.st k ≠ 4
/-- what a call, or a call to unlock, may turn -/
def SS.Ke (s s' : SS) : Prop := s'.n = s.n ∧ (s.Np → s'.Np ∧ ∀ k, s'.st k = s.st k ∨ (s.st k = 0 ∧ s'.st k = 1) ∨ (s.st k = 2 ∧ s'.st k = 3))
theorem SS.set_np {s : SS} (h : s.Np) (k : Nat) (x d : Int) (hx : x ≠ 4) : (s.set k x d).Np := by
  refine ⟨h.1, fun j => ?_⟩
  show upd s.st k x j ≠ 4
  by_cases e : j = k
  · subst e; rw [upd_same]; exact hx
  · rw [upd_other _ _ e]; exact h.2 j
theorem SS.set_st (s : SS) (k : Nat) (x d : Int) : (s.set k x d).st = upd s.st k x := rfl
theorem SS.lock_k (s : SS) (t d : Int) : s.Ke (s.lock t d) := by
  refine ⟨s.lock_n t d, fun h => ?_⟩
  unfold SS.lock
  split
  · rename_i hE
    unfold lockE at hE
    split at hE
    · rename_i hq
      split at hE
      · rename_i h0
        refine ⟨SS.set_np h _ _ _ (by decide), fun j => ?_⟩
        rw [SS.set_st]
        by_cases e : j = t.toNat
        · subst e; rw [upd_same]; exact .inr (.inl ⟨h0, rfl⟩)
        · rw [upd_other _ _ e]; exact .inl rfl
      · exact absurd hE (by decide)
    · exact absurd hE (by decide)
  · exact ⟨h, fun _ => .inl rfl⟩
theorem SS.turn_k (s : SS) (t x : Int) (hx : x = 3) : s.Ke (s.turn t x) := by
  subst hx
  refine ⟨s.turn_n t 3, fun h => ?_⟩
  unfold SS.turn
  split
  · rename_i hE
    unfold turnE at hE
    split at hE
    · split at hE
      · exact absurd hE (by decide)
      · split at hE
        · rename_i h2
          refine ⟨SS.set_np h _ _ _ (by decide), fun j => ?_⟩
          rw [SS.set_st]
          by_cases e : j = t.toNat
          · subst e; rw [upd_same]; exact .inr (.inr ⟨h2, rfl⟩)
          · rw [upd_other _ _ e]; exact .inl rfl
        · exact absurd hE (by decide)
    · exact absurd hE (by decide)
  · exact ⟨h, fun _ => .inl rfl⟩
theorem SS.probe_k (s : SS) (t : Int) : s.Ke (s.probe t) := by
  refine ⟨s.probe_n t, fun h => ?_⟩
  unfold SS.probe
  rw [if_neg (by rw [h.1]; decide)]
  exact ⟨h, fun _ => .inl rfl⟩
theorem SS.fin_np {s : SS} (h : s.Np) (t ev : Int) : (s.fin t ev).Np := by
  unfold SS.fin
  split
  · rename_i y e
    refine SS.set_np h _ _ _ ?_
    unfold endO behindI at e
    repeat' split at e
    all_goals first | (cases e; decide) | cases e
  · exact h
/-- what a context does behind an event -/
def finS (x ev : Int) : Int := (behindI x ev).getD x
theorem SS.fin_st (s : SS) (k : Nat) (hk : k < s.n) (ev : Int) : (s.fin k ev).st = upd s.st k (finS (s.st k) ev) := by
  unfold SS.fin endO finS
  rw [if_pos (show 0 ≤ (k : Int) ∧ (k : Int) < s.n by omega), Int.toNat_natCast]
  cases behindI (s.st k) ev with
  | some y => rfl
  | none =>
    funext j
    by_cases e : j = k
    · subst e; rw [upd_same]; rfl
    · rw [upd_other _ _ e]
theorem SS.fin_st0 (s : SS) (t : Int) : (s.fin t 0).st = s.st := by
  unfold SS.fin endO
  by_cases h : 0 ≤ t ∧ t < s.n
  · rw [if_pos h]
    have : behindI (s.st t.toNat) 0 = none := by
      unfold behindI
      repeat' split
      all_goals first | rfl | (exfalso; omega)
    rw [this]
  · rw [if_neg h]

/-! ### a place -/
structure Pc where
  cl : Int
  nd : Int
  ah : Int
  st : Int
  la : Int
  wa : Int
def Pc.cells (p : Pc) : List Value := [.int .i64 p.cl, .int .u32 p.nd, .int .u32 p.ah, .int .i64 p.st, .int .u32 p.la, .int .u32 p.wa]
def tkC (G : Nat → Pc) (t : Nat) : List Value := (G t).cells
theorem tkC_len (G : Nat → Pc) : ∀ x, (tkC G x).length = 6 := fun _ => rfl
def tks (n : Nat) (G : Nat → Pc) : List Value := (List.range n).flatMap (tkC G)
theorem tks_at (n : Nat) (G : Nat → Pc) {k : Nat} (hk : k < n) {j : Nat} (hj : j < 6) : (tks n G)[k * 6 + j]? = (G k).cells[j]? := flat_at' (tkC_len G) _ (by rw [List.getElem?_range hk]) hj
theorem range_at {n i t : Nat} (ht : (List.range n)[i]? = some t) : i < n ∧ t = i := by
  have hi : i < n := by have := (List.getElem?_eq_some_iff.1 ht).1; simpa using this
  rw [List.getElem?_range hi] at ht
  exact ⟨hi, by simpa using ht.symm⟩
theorem tks_set (n : Nat) (G : Nat → Pc) (k j : Nat) (v : Value) (p : Pc) (hj : j < 6) (hp : p.cells = (G k).cells.set j v) : (tks n G).set (k * 6 + j) v = tks n (upd G k p) := by
  refine flat_set (tkC_len G) (tkC_len _) _ k j hj _ fun i t ht l hl => ?_
  obtain ⟨_, rfl⟩ := range_at ht
  unfold tkC
  by_cases e : t = k
  · subst e
    rw [upd_same, hp, List.getElem?_set]
    have hlen : (G t).cells.length = 6 := rfl
    by_cases el : l = j
    · subst el; simp [hlen, hj]
    · simp [el, Ne.symm el]
  · simp [upd_other _ _ e, e]
theorem upd_sf {α : Type} (f : Nat → α) (k j : Nat) : f j = upd f k (f k) j := by
  by_cases e : j = k
  · subst e; rw [upd_same]
  · rw [upd_other _ _ e]
theorem upd_id {α : Type} (g : Nat → α) (k : Nat) {x : α} (h : x = g k) : upd g k x = g := by subst h; exact funext fun j => (upd_sf g k j).symm
theorem upd_upd {α : Type} (g : Nat → α) (k : Nat) (x y : α) : upd (upd g k x) k y = upd g k y := by
  funext j
  by_cases e : j = k
  · subst e; rw [upd_same, upd_same]
  · rw [upd_other _ _ e, upd_other _ _ e, upd_other _ _ e]

/-- of a context what the document says: its cluster, its step, its node, the one ahead, its batch's last one, the word it read -/
structure Ab where
  cl : Int
  pc : Int
  nd : Int
  ahd : Int
  of : Int
  wv : Int
def FL.ab (f : FL) (k : Nat) : Ab := ⟨f.cl k, f.pc k, f.nd k, f.ahd k, f.of k, f.wv k⟩
def FL.put (f : FL) (k : Nat) (a : Ab) : FL := { f with cl := upd f.cl k a.cl, pc := upd f.pc k a.pc, nd := upd f.nd k a.nd, ahd := upd f.ahd k a.ahd, of := upd f.of k a.of, wv := upd f.wv k a.wv }
theorem FL.ab_put (f : FL) (k : Nat) (a : Ab) : (f.put k a).ab = upd f.ab k a := by
  funext j
  unfold FL.ab FL.put
  by_cases e : j = k
  · subst e; simp only [upd_same]
  · simp only [upd_other _ _ e]
/-- what a place has of what the document says, where a context is in the state x -/
structure PlI (x : Int) (a : Ab) (p : Pc) : Prop where
  cl : p.cl = a.cl ∧ 0 ≤ a.cl ∧ a.cl ≤ 7
  nd : p.nd = a.nd ∧ 0 ≤ a.nd ∧ a.nd < 4294967296
  st : p.st = a.pc ∧ 0 ≤ a.pc ∧ a.pc ≤ 7
  ahr : 0 ≤ a.ahd ∧ a.ahd < 4294967296
  ofr : 0 ≤ a.of ∧ a.of < 4294967296
  wvr : 0 ≤ a.wv ∧ a.wv < 4294967296
  ah1 : x = 1 → 2 ≤ a.pc → p.ah = a.ahd
  ah2 : x = 2 ∨ x = 3 → p.ah = a.ahd
  la1 : x = 1 → 4 ≤ a.pc → p.la = a.of
  wa1 : x = 1 → a.pc = 6 → p.wa = a.wv
  wa3 : x = 3 → a.pc = 1 → p.wa = a.wv
  idle : x ≠ 1 → x ≠ 3 → a.pc = 0
  rel : x = 3 → a.pc ≤ 1
  pa : 0 ≤ p.ah ∧ p.ah < 4294967296
  pl : 0 ≤ p.la ∧ p.la < 4294967296
  pw : 0 ≤ p.wa ∧ p.wa < 4294967296
theorem PlI.turn {x y : Int} {a : Ab} {p : Pc} (h : PlI x a p) (hy : y = x ∨ (x = 0 ∧ y = 1) ∨ (x = 2 ∧ y = 3)) : PlI y a p := by
  rcases hy with rfl | ⟨rfl, rfl⟩ | ⟨rfl, rfl⟩
  · exact h
  · have e := h.idle (by decide) (by decide)
    exact ⟨h.cl, h.nd, h.st, h.ahr, h.ofr, h.wvr, fun _ q => by omega, fun q => by omega, fun _ q => by omega, fun _ q => by omega, fun q => by omega, fun q => by omega, fun q => by omega, h.pa, h.pl, h.pw⟩
  · have e := h.idle (by decide) (by decide)
    exact ⟨h.cl, h.nd, h.st, h.ahr, h.ofr, h.wvr, fun q => by omega, fun _ => h.ah2 (.inl rfl), fun q => by omega, fun q => by omega, fun _ q => by omega, fun _ q => by omega, fun _ => by omega, h.pa, h.pl, h.pw⟩

/-! ### in the heap -/
structure FlRaw (w : World) (L : Lp) (pv : Value) (s : SS) (σ : Nat → Int) (A : Nat → Ab) : Prop where
  obj : w.heap[L.lb]? = some (.cells #[.pointer (some ⟨L.p, 0, none⟩), pv, .int .i64 L.a1, .slice (some ⟨L.tb, 0, none⟩) s.n s.n] 52 (0, 0))
  seat : SeatAt w L.p L.b s
  tick : ∃ G : Nat → Pc, w.heap[L.tb]? = some (.cells (tks s.n G).toArray 87 (0, 0)) ∧ ∀ k, k < s.n → PlI (σ k) (A k) (G k)
  np : s.Np
  ne : L.lb ≠ L.b ∧ L.lb ≠ L.tb ∧ L.p ≠ L.tb ∧ L.b ≠ L.tb ∧ L.lb ≠ L.p
  adr : 0 ≤ L.a1 ∧ L.a1 ≤ 2000000 ∧ L.a2 = L.a1 + 1

namespace FlRaw
variable {w w' : World} {L : Lp} {pv : Value} {s : SS} {σ : Nat → Int} {A : Nat → Ab}
theorem wrote {S : Nat → Prop} (h : FlRaw w L pv s σ A) (k : Wrote S w w') (h1 : ¬ S L.lb) (h2 : ¬ S L.p) (h3 : ¬ S L.b) (h4 : ¬ S L.tb) : FlRaw w' L pv s σ A := by
  obtain ⟨G, g1, g2⟩ := h.tick
  exact ⟨(k.block _ (blk_lt h.obj) h1).trans h.obj, h.seat.wrote k h2 h3, ⟨G, (k.block _ (blk_lt g1) h4).trans g1, g2⟩, h.np, h.ne, h.adr⟩
theorem after (h : FlRaw w L pv s σ A) (k : Wrote Nil w w') : FlRaw w' L pv s σ A := h.wrote k id id id id
theorem lto (h : FlRaw w L pv s σ A) : L.lb < w.heap.size := blk_lt h.obj
theorem ltt (h : FlRaw w L pv s σ A) : L.tb < w.heap.size := by obtain ⟨G, g1, _⟩ := h.tick; exact blk_lt g1
/-- its contexts turn, its places stay: what is so behind an event, or behind a call -/
theorem seats0 {s' : SS} (h : FlRaw w L pv s σ A) (hS : SeatAt w' L.p L.b s') (hn : s'.n = s.n) (hp : s'.Np) (k : Wrote (One L.b) w w') : FlRaw w' L pv s' σ A := by
  obtain ⟨G, g1, g2⟩ := h.tick
  refine ⟨?_, hS, ⟨G, ?_, fun k hk => g2 k (by omega)⟩, hp, h.ne, h.adr⟩
  · rw [hn]; exact (k.block _ (blk_lt h.obj) h.ne.1).trans h.obj
  · rw [hn]; exact (k.block _ (blk_lt g1) (fun e => h.ne.2.2.2.1 e.symm)).trans g1
theorem cell0 (h : FlRaw w L pv s σ A) : w.cell? ⟨L.lb, 0, none⟩ = some (.pointer (some ⟨L.p, 0, none⟩)) := by rw [blk_cell h.obj]; rfl
theorem cell1 (h : FlRaw w L pv s σ A) : w.cell? ⟨L.lb, 1, none⟩ = some pv := by rw [blk_cell h.obj]; rfl
theorem cell2 (h : FlRaw w L pv s σ A) : w.cell? ⟨L.lb, 2, none⟩ = some (.int .i64 L.a1) := by rw [blk_cell h.obj]; rfl
theorem cell3 (h : FlRaw w L pv s σ A) : w.cell? ⟨L.lb, 3, none⟩ = some (.slice (some ⟨L.tb, 0, none⟩) s.n s.n) := by rw [blk_cell h.obj]; rfl
theorem frozen (h : FlRaw w L pv s σ A) (k : Nat) : w.frozen? ⟨L.lb, k, none⟩ = false := blk_frozen h.obj k
/-- a place's cells -/
theorem place6 (h : FlRaw w L pv s σ A) {k : Nat} (hk : k < s.n) : ∃ p : Pc, PlI (σ k) (A k) p ∧ w.cell? ⟨L.tb, k * 6, none⟩ = some (.int .i64 (A k).cl) ∧ w.cell? ⟨L.tb, k * 6 + 1, none⟩ = some (.int .u32 (A k).nd) ∧
    w.cell? ⟨L.tb, k * 6 + 2, none⟩ = some (.int .u32 p.ah) ∧ w.cell? ⟨L.tb, k * 6 + 3, none⟩ = some (.int .i64 (A k).pc) ∧ w.cell? ⟨L.tb, k * 6 + 4, none⟩ = some (.int .u32 p.la) ∧ w.cell? ⟨L.tb, k * 6 + 5, none⟩ = some (.int .u32 p.wa) := by
  obtain ⟨G, g1, g2⟩ := h.tick
  have g2 := g2 k hk
  refine ⟨G k, g2, ?_, ?_, ?_, ?_, ?_, ?_⟩
  · rw [blk_cell g1, List.getElem?_toArray, ← g2.cl.1]; exact tks_at s.n G hk (j := 0) (by decide)
  · rw [blk_cell g1, List.getElem?_toArray, ← g2.nd.1]; exact tks_at s.n G hk (j := 1) (by decide)
  · rw [blk_cell g1, List.getElem?_toArray]; exact tks_at s.n G hk (j := 2) (by decide)
  · rw [blk_cell g1, List.getElem?_toArray, ← g2.st.1]; exact tks_at s.n G hk (j := 3) (by decide)
  · rw [blk_cell g1, List.getElem?_toArray]; exact tks_at s.n G hk (j := 4) (by decide)
  · rw [blk_cell g1, List.getElem?_toArray]; exact tks_at s.n G hk (j := 5) (by decide)
theorem tkz (h : FlRaw w L pv s σ A) (k : Nat) : w.frozen? ⟨L.tb, k, none⟩ = false := by obtain ⟨G, g1, _⟩ := h.tick; exact blk_frozen g1 k
theorem pli (h : FlRaw w L pv s σ A) {k : Nat} (hk : k < s.n) : ∃ p : Pc, PlI (σ k) (A k) p := by obtain ⟨G, g1, g2⟩ := h.tick; exact ⟨G k, g2 k hk⟩

theorem put0 (h : FlRaw w L pv s σ A) {G : Nat → Pc} (hG : w'.heap[L.tb]? = some (.cells (tks s.n G).toArray 87 (0, 0))) (hW : Wrote (One L.tb) w w')
    {σ' : Nat → Int} {A' : Nat → Ab} (hI : ∀ j, j < s.n → PlI (σ' j) (A' j) (G j)) : FlRaw w' L pv s σ' A' :=
  ⟨(hW.block _ (blk_lt h.obj) h.ne.2.1).trans h.obj, h.seat.wrote hW h.ne.2.2.1 h.ne.2.2.2.1, ⟨G, hG, hI⟩, h.np, h.ne, h.adr⟩
theorem pli_upd {n : Nat} {G : Nat → Pc} (hI : ∀ j, j < n → PlI (σ j) (A j) (G j)) (k : Nat) {v : Int} {a : Ab} {p : Pc} (hp : PlI (σ k) (A k) (G k) → PlI v a p) : ∀ j, j < n → PlI (upd σ k v j) (upd A k a j) (upd G k p j) := fun j hj => by
  by_cases e : j = k
  · subst e; rw [upd_same, upd_same, upd_same]; exact hp (hI j hj)
  · rw [upd_other _ _ e, upd_other _ _ e, upd_other _ _ e]; exact hI j hj
/-- nothing turns in the heap -/
theorem set0 (h : FlRaw w L pv s σ A) (k : Nat) (v : Int) (a : Ab) (hp : ∀ p, PlI (σ k) (A k) p → PlI v a p) : FlRaw w L pv s (upd σ k v) (upd A k a) := by
  obtain ⟨G, g1, g2⟩ := h.tick
  exact h.put0 (G := upd G k (G k)) (by rw [upd_id G k rfl]; exact g1) (Wrote.refl _ w) (pli_upd g2 k (hp _))
/-- a place's step turns alone -/
theorem set1 (h : FlRaw w L pv s σ A) (k : Nat) (v : Int) (a : Ab) (c : Int) (hp : ∀ p, PlI (σ k) (A k) p → PlI v a { p with st := c }) :
    FlRaw (w.setCell ⟨L.tb, k * 6 + 3, none⟩ (.int .i64 c)) L pv s (upd σ k v) (upd A k a) ∧ Wrote (One L.tb) w (w.setCell ⟨L.tb, k * 6 + 3, none⟩ (.int .i64 c)) := by
  obtain ⟨G, g1, g2⟩ := h.tick
  have hW : Wrote (One L.tb) w (w.setCell ⟨L.tb, k * 6 + 3, none⟩ (.int .i64 c)) := (Wrote.refl (One L.tb) w).setCell ⟨L.tb, k * 6 + 3, none⟩ (.int .i64 c) fun _ => rfl
  refine ⟨h.put0 (G := upd G k { G k with st := c }) ?_ hW (pli_upd g2 k (hp _)), hW⟩
  rw [blk_setCell g1 _ _, List.setIfInBounds_toArray]
  have e0 : (tks s.n G).set (k * 6 + 3) (.int .i64 c) = tks s.n (upd G k { G k with st := c }) := tks_set s.n G k 3 _ _ (by decide) rfl
  rw [e0]
/-- the node ahead, and the step -/
theorem setA (h : FlRaw w L pv s σ A) (k : Nat) (v : Int) (a : Ab) (b c : Int) (hp : ∀ p, PlI (σ k) (A k) p → PlI v a { p with ah := b, st := c }) :
    FlRaw ((w.setCell ⟨L.tb, k * 6 + 2, none⟩ (.int .u32 b)).setCell ⟨L.tb, k * 6 + 3, none⟩ (.int .i64 c)) L pv s (upd σ k v) (upd A k a) ∧ Wrote (One L.tb) w ((w.setCell ⟨L.tb, k * 6 + 2, none⟩ (.int .u32 b)).setCell ⟨L.tb, k * 6 + 3, none⟩ (.int .i64 c)) := by
  obtain ⟨G, g1, g2⟩ := h.tick
  have hW : Wrote (One L.tb) w ((w.setCell ⟨L.tb, k * 6 + 2, none⟩ (.int .u32 b)).setCell ⟨L.tb, k * 6 + 3, none⟩ (.int .i64 c)) := ((Wrote.refl (One L.tb) w).setCell ⟨L.tb, k * 6 + 2, none⟩ (.int .u32 b) fun _ => rfl).setCell ⟨L.tb, k * 6 + 3, none⟩ (.int .i64 c) fun _ => rfl
  refine ⟨h.put0 (G := upd G k { G k with ah := b, st := c }) ?_ hW (pli_upd g2 k (hp _)), hW⟩
  rw [blk_setCell (blk_setCell g1 _ _) _ _, List.setIfInBounds_toArray, List.setIfInBounds_toArray]
  have e0 : (tks s.n G).set (k * 6 + 2) (.int .u32 b) = tks s.n (upd G k { G k with ah := b }) := tks_set s.n G k 2 _ _ (by decide) rfl
  have e1 : (tks s.n (upd G k { G k with ah := b })).set (k * 6 + 3) (.int .i64 c) = tks s.n (upd G k { G k with ah := b, st := c }) := by rw [tks_set s.n (upd G k { G k with ah := b }) k 3 _ { G k with ah := b, st := c } (by decide) (by rw [upd_same]; rfl), upd_upd]
  rw [e0, e1]
/-- the last node of its batch, and the step -/
theorem setL (h : FlRaw w L pv s σ A) (k : Nat) (v : Int) (a : Ab) (b c : Int) (hp : ∀ p, PlI (σ k) (A k) p → PlI v a { p with la := b, st := c }) :
    FlRaw ((w.setCell ⟨L.tb, k * 6 + 4, none⟩ (.int .u32 b)).setCell ⟨L.tb, k * 6 + 3, none⟩ (.int .i64 c)) L pv s (upd σ k v) (upd A k a) ∧ Wrote (One L.tb) w ((w.setCell ⟨L.tb, k * 6 + 4, none⟩ (.int .u32 b)).setCell ⟨L.tb, k * 6 + 3, none⟩ (.int .i64 c)) := by
  obtain ⟨G, g1, g2⟩ := h.tick
  have hW : Wrote (One L.tb) w ((w.setCell ⟨L.tb, k * 6 + 4, none⟩ (.int .u32 b)).setCell ⟨L.tb, k * 6 + 3, none⟩ (.int .i64 c)) := ((Wrote.refl (One L.tb) w).setCell ⟨L.tb, k * 6 + 4, none⟩ (.int .u32 b) fun _ => rfl).setCell ⟨L.tb, k * 6 + 3, none⟩ (.int .i64 c) fun _ => rfl
  refine ⟨h.put0 (G := upd G k { G k with la := b, st := c }) ?_ hW (pli_upd g2 k (hp _)), hW⟩
  rw [blk_setCell (blk_setCell g1 _ _) _ _, List.setIfInBounds_toArray, List.setIfInBounds_toArray]
  have e0 : (tks s.n G).set (k * 6 + 4) (.int .u32 b) = tks s.n (upd G k { G k with la := b }) := tks_set s.n G k 4 _ _ (by decide) rfl
  have e1 : (tks s.n (upd G k { G k with la := b })).set (k * 6 + 3) (.int .i64 c) = tks s.n (upd G k { G k with la := b, st := c }) := by rw [tks_set s.n (upd G k { G k with la := b }) k 3 _ { G k with la := b, st := c } (by decide) (by rw [upd_same]; rfl), upd_upd]
  rw [e0, e1]
/-- the word that a Cas is to change, and the step -/
theorem setW (h : FlRaw w L pv s σ A) (k : Nat) (v : Int) (a : Ab) (b c : Int) (hp : ∀ p, PlI (σ k) (A k) p → PlI v a { p with wa := b, st := c }) :
    FlRaw ((w.setCell ⟨L.tb, k * 6 + 5, none⟩ (.int .u32 b)).setCell ⟨L.tb, k * 6 + 3, none⟩ (.int .i64 c)) L pv s (upd σ k v) (upd A k a) ∧ Wrote (One L.tb) w ((w.setCell ⟨L.tb, k * 6 + 5, none⟩ (.int .u32 b)).setCell ⟨L.tb, k * 6 + 3, none⟩ (.int .i64 c)) := by
  obtain ⟨G, g1, g2⟩ := h.tick
  have hW : Wrote (One L.tb) w ((w.setCell ⟨L.tb, k * 6 + 5, none⟩ (.int .u32 b)).setCell ⟨L.tb, k * 6 + 3, none⟩ (.int .i64 c)) := ((Wrote.refl (One L.tb) w).setCell ⟨L.tb, k * 6 + 5, none⟩ (.int .u32 b) fun _ => rfl).setCell ⟨L.tb, k * 6 + 3, none⟩ (.int .i64 c) fun _ => rfl
  refine ⟨h.put0 (G := upd G k { G k with wa := b, st := c }) ?_ hW (pli_upd g2 k (hp _)), hW⟩
  rw [blk_setCell (blk_setCell g1 _ _) _ _, List.setIfInBounds_toArray, List.setIfInBounds_toArray]
  have e0 : (tks s.n G).set (k * 6 + 5) (.int .u32 b) = tks s.n (upd G k { G k with wa := b }) := tks_set s.n G k 5 _ _ (by decide) rfl
  have e1 : (tks s.n (upd G k { G k with wa := b })).set (k * 6 + 3) (.int .i64 c) = tks s.n (upd G k { G k with wa := b, st := c }) := by rw [tks_set s.n (upd G k { G k with wa := b }) k 3 _ { G k with wa := b, st := c } (by decide) (by rw [upd_same]; rfl), upd_upd]
  rw [e0, e1]
/-- the node ahead, the step twice -/
theorem setB (h : FlRaw w L pv s σ A) (k : Nat) (v : Int) (a : Ab) (b c d : Int) (hp : ∀ p, PlI (σ k) (A k) p → PlI v a { p with ah := b, st := d }) :
    FlRaw (((w.setCell ⟨L.tb, k * 6 + 2, none⟩ (.int .u32 b)).setCell ⟨L.tb, k * 6 + 3, none⟩ (.int .i64 c)).setCell ⟨L.tb, k * 6 + 3, none⟩ (.int .i64 d)) L pv s (upd σ k v) (upd A k a) ∧ Wrote (One L.tb) w (((w.setCell ⟨L.tb, k * 6 + 2, none⟩ (.int .u32 b)).setCell ⟨L.tb, k * 6 + 3, none⟩ (.int .i64 c)).setCell ⟨L.tb, k * 6 + 3, none⟩ (.int .i64 d)) := by
  obtain ⟨G, g1, g2⟩ := h.tick
  have hW : Wrote (One L.tb) w (((w.setCell ⟨L.tb, k * 6 + 2, none⟩ (.int .u32 b)).setCell ⟨L.tb, k * 6 + 3, none⟩ (.int .i64 c)).setCell ⟨L.tb, k * 6 + 3, none⟩ (.int .i64 d)) := (((Wrote.refl (One L.tb) w).setCell ⟨L.tb, k * 6 + 2, none⟩ (.int .u32 b) fun _ => rfl).setCell ⟨L.tb, k * 6 + 3, none⟩ (.int .i64 c) fun _ => rfl).setCell ⟨L.tb, k * 6 + 3, none⟩ (.int .i64 d) fun _ => rfl
  refine ⟨h.put0 (G := upd G k { G k with ah := b, st := d }) ?_ hW (pli_upd g2 k (hp _)), hW⟩
  rw [blk_setCell (blk_setCell (blk_setCell g1 _ _) _ _) _ _, List.setIfInBounds_toArray, List.setIfInBounds_toArray, List.setIfInBounds_toArray]
  have e0 : (tks s.n G).set (k * 6 + 2) (.int .u32 b) = tks s.n (upd G k { G k with ah := b }) := tks_set s.n G k 2 _ _ (by decide) rfl
  have e1 : (tks s.n (upd G k { G k with ah := b })).set (k * 6 + 3) (.int .i64 c) = tks s.n (upd G k { G k with ah := b, st := c }) := by rw [tks_set s.n (upd G k { G k with ah := b }) k 3 _ { G k with ah := b, st := c } (by decide) (by rw [upd_same]; rfl), upd_upd]
  have e2 : (tks s.n (upd G k { G k with ah := b, st := c })).set (k * 6 + 3) (.int .i64 d) = tks s.n (upd G k { G k with ah := b, st := d }) := by rw [tks_set s.n (upd G k { G k with ah := b, st := c }) k 3 _ { G k with ah := b, st := d } (by decide) (by rw [upd_same]; rfl), upd_upd]
  rw [e0, e1, e2]
/-- a place turns whole -/
theorem set6 (h : FlRaw w L pv s σ A) (k : Nat) (v : Int) (a : Ab) (c0 c1 c2 c3 c4 c5 : Int) (hp : ∀ p, PlI (σ k) (A k) p → PlI v a { p with cl := c0, nd := c1, ah := c2, st := c3, la := c4, wa := c5 }) :
    FlRaw ((((((w.setCell ⟨L.tb, k * 6, none⟩ (.int .i64 c0)).setCell ⟨L.tb, k * 6 + 1, none⟩ (.int .u32 c1)).setCell ⟨L.tb, k * 6 + 2, none⟩ (.int .u32 c2)).setCell ⟨L.tb, k * 6 + 3, none⟩ (.int .i64 c3)).setCell ⟨L.tb, k * 6 + 4, none⟩ (.int .u32 c4)).setCell ⟨L.tb, k * 6 + 5, none⟩ (.int .u32 c5)) L pv s (upd σ k v) (upd A k a) ∧ Wrote (One L.tb) w ((((((w.setCell ⟨L.tb, k * 6, none⟩ (.int .i64 c0)).setCell ⟨L.tb, k * 6 + 1, none⟩ (.int .u32 c1)).setCell ⟨L.tb, k * 6 + 2, none⟩ (.int .u32 c2)).setCell ⟨L.tb, k * 6 + 3, none⟩ (.int .i64 c3)).setCell ⟨L.tb, k * 6 + 4, none⟩ (.int .u32 c4)).setCell ⟨L.tb, k * 6 + 5, none⟩ (.int .u32 c5)) := by
  obtain ⟨G, g1, g2⟩ := h.tick
  have hW : Wrote (One L.tb) w ((((((w.setCell ⟨L.tb, k * 6, none⟩ (.int .i64 c0)).setCell ⟨L.tb, k * 6 + 1, none⟩ (.int .u32 c1)).setCell ⟨L.tb, k * 6 + 2, none⟩ (.int .u32 c2)).setCell ⟨L.tb, k * 6 + 3, none⟩ (.int .i64 c3)).setCell ⟨L.tb, k * 6 + 4, none⟩ (.int .u32 c4)).setCell ⟨L.tb, k * 6 + 5, none⟩ (.int .u32 c5)) := ((((((Wrote.refl (One L.tb) w).setCell ⟨L.tb, k * 6, none⟩ (.int .i64 c0) fun _ => rfl).setCell ⟨L.tb, k * 6 + 1, none⟩ (.int .u32 c1) fun _ => rfl).setCell ⟨L.tb, k * 6 + 2, none⟩ (.int .u32 c2) fun _ => rfl).setCell ⟨L.tb, k * 6 + 3, none⟩ (.int .i64 c3) fun _ => rfl).setCell ⟨L.tb, k * 6 + 4, none⟩ (.int .u32 c4) fun _ => rfl).setCell ⟨L.tb, k * 6 + 5, none⟩ (.int .u32 c5) fun _ => rfl
  refine ⟨h.put0 (G := upd G k { G k with cl := c0, nd := c1, ah := c2, st := c3, la := c4, wa := c5 }) ?_ hW (pli_upd g2 k (hp _)), hW⟩
  rw [blk_setCell (blk_setCell (blk_setCell (blk_setCell (blk_setCell (blk_setCell g1 _ _) _ _) _ _) _ _) _ _) _ _, List.setIfInBounds_toArray, List.setIfInBounds_toArray, List.setIfInBounds_toArray, List.setIfInBounds_toArray, List.setIfInBounds_toArray, List.setIfInBounds_toArray]
  have e0 : (tks s.n G).set (k * 6) (.int .i64 c0) = tks s.n (upd G k { G k with cl := c0 }) := tks_set s.n G k 0 _ _ (by decide) rfl
  have e1 : (tks s.n (upd G k { G k with cl := c0 })).set (k * 6 + 1) (.int .u32 c1) = tks s.n (upd G k { G k with cl := c0, nd := c1 }) := by rw [tks_set s.n (upd G k { G k with cl := c0 }) k 1 _ { G k with cl := c0, nd := c1 } (by decide) (by rw [upd_same]; rfl), upd_upd]
  have e2 : (tks s.n (upd G k { G k with cl := c0, nd := c1 })).set (k * 6 + 2) (.int .u32 c2) = tks s.n (upd G k { G k with cl := c0, nd := c1, ah := c2 }) := by rw [tks_set s.n (upd G k { G k with cl := c0, nd := c1 }) k 2 _ { G k with cl := c0, nd := c1, ah := c2 } (by decide) (by rw [upd_same]; rfl), upd_upd]
  have e3 : (tks s.n (upd G k { G k with cl := c0, nd := c1, ah := c2 })).set (k * 6 + 3) (.int .i64 c3) = tks s.n (upd G k { G k with cl := c0, nd := c1, ah := c2, st := c3 }) := by rw [tks_set s.n (upd G k { G k with cl := c0, nd := c1, ah := c2 }) k 3 _ { G k with cl := c0, nd := c1, ah := c2, st := c3 } (by decide) (by rw [upd_same]; rfl), upd_upd]
  have e4 : (tks s.n (upd G k { G k with cl := c0, nd := c1, ah := c2, st := c3 })).set (k * 6 + 4) (.int .u32 c4) = tks s.n (upd G k { G k with cl := c0, nd := c1, ah := c2, st := c3, la := c4 }) := by rw [tks_set s.n (upd G k { G k with cl := c0, nd := c1, ah := c2, st := c3 }) k 4 _ { G k with cl := c0, nd := c1, ah := c2, st := c3, la := c4 } (by decide) (by rw [upd_same]; rfl), upd_upd]
  have e5 : (tks s.n (upd G k { G k with cl := c0, nd := c1, ah := c2, st := c3, la := c4 })).set (k * 6 + 5) (.int .u32 c5) = tks s.n (upd G k { G k with cl := c0, nd := c1, ah := c2, st := c3, la := c4, wa := c5 }) := by rw [tks_set s.n (upd G k { G k with cl := c0, nd := c1, ah := c2, st := c3, la := c4 }) k 5 _ { G k with cl := c0, nd := c1, ah := c2, st := c3, la := c4, wa := c5 } (by decide) (by rw [upd_same]; rfl), upd_upd]
  rw [e0, e1, e2, e3, e4, e5]
/-- what lies beside a cell that turns -/
theorem beside (h : FlRaw w L pv s σ A) {i j : Nat} (e : i ≠ j) (v : Value) : (w.setCell ⟨L.tb, i, none⟩ v).cell? ⟨L.tb, j, none⟩ = w.cell? ⟨L.tb, j, none⟩ := by
  obtain ⟨G, g1, _⟩ := h.tick
  rw [blk_cell (blk_setCell g1 i v), blk_cell g1, Array.getElem?_setIfInBounds_ne e]
theorem far1 (h : FlRaw w L pv s σ A) (i : Nat) (v : Value) : (w.setCell ⟨L.tb, i, none⟩ v).cell? ⟨L.lb, 1, none⟩ = some pv := by
  have hW : Wrote (One L.tb) w (w.setCell ⟨L.tb, i, none⟩ v) := (Wrote.refl _ w).setCell _ _ fun _ => rfl
  rw [blk_cell ((hW.block _ (blk_lt h.obj) h.ne.2.1).trans h.obj)]; rfl
theorem far2 (h : FlRaw w L pv s σ A) (i : Nat) (v : Value) : (w.setCell ⟨L.tb, i, none⟩ v).cell? ⟨L.lb, 2, none⟩ = some (.int .i64 L.a1) := by
  have hW : Wrote (One L.tb) w (w.setCell ⟨L.tb, i, none⟩ v) := (Wrote.refl _ w).setCell _ _ fun _ => rfl
  rw [blk_cell ((hW.block _ (blk_lt h.obj) h.ne.2.1).trans h.obj)]; rfl
/-- it is used over a port -/
theorem use (h : FlRaw w L pv s σ A) (v : Value) : FlRaw (w.setCell ⟨L.lb, 1, none⟩ v) L v s σ A := by
  have hW : Wrote (One L.lb) w (w.setCell ⟨L.lb, 1, none⟩ v) := (Wrote.refl _ w).setCell _ _ fun _ => rfl
  obtain ⟨G, g1, g2⟩ := h.tick
  refine ⟨?_, h.seat.wrote hW (fun e => h.ne.2.2.2.2 e.symm) (fun e => h.ne.1 e.symm), ⟨G, (hW.block _ (blk_lt g1) (fun e => h.ne.2.1 e.symm)).trans g1, g2⟩, h.np, h.ne, h.adr⟩
  rw [blk_setCell h.obj]
  rfl
theorem place (h : FlRaw w L pv s σ A) (q : Place) (hs : List Int) : FlRaw w { L with q := q, hs := hs } pv s σ A := ⟨h.obj, h.seat, h.tick, h.np, h.ne, h.adr⟩
end FlRaw

abbrev RawF (w : World) (L : Lp) (pv : Value) (f : FL) : Prop := FlRaw w L pv f.s f.s.st f.ab
/-- a lock that is used over its port; what its contexts are said to do -/
structure LkM (w : World) (L : Lp) (f : FL) (σ : Nat → Int) : Prop where
  raw : FlRaw w L (.pointer (some ⟨L.q.p, 0, none⟩)) f.s σ f.ab
  port : PortAt w L.q L.hs f.ps
  far : L.lb < L.q.k0 ∧ L.p < L.q.k0 ∧ L.b < L.q.k0 ∧ L.tb < L.q.k0
  top : L.q.k3 ≤ w.heap.size
abbrev LkAt (w : World) (L : Lp) (f : FL) : Prop := LkM w L f f.s.st
/-- the blocks that a call of it may turn -/
def LF (L : Lp) (k : Nat) : Prop := k = L.b ∨ k = L.tb ∨ Rng L.q.k0 L.q.k3 k

namespace LkM
variable {w w' : World} {L : Lp} {f : FL} {σ : Nat → Int}
theorem wrote {S : Nat → Prop} (h : LkM w L f σ) (k : Wrote S w w') (h5 : ∀ b, b < L.q.k3 → ¬ S b) : LkM w' L f σ := by
  have hf := h.far
  have hl := h.port.place.le
  exact ⟨h.raw.wrote k (h5 _ (by omega)) (h5 _ (by omega)) (h5 _ (by omega)) (h5 _ (by omega)), h.port.wrote k (fun b _ b2 => h5 b b2), h.far, Nat.le_trans h.top k.size⟩
theorem after (h : LkM w L f σ) (k : Wrote Nil w w') : LkM w' L f σ := h.wrote k fun _ _ => id
theorem seats {s' : SS} (h : LkAt w L f) (hS : SeatAt w' L.p L.b s') (hn : f.s.Ke s') (k : Wrote (One L.b) w w') : LkAt w' L { f with s := s' } := by
  have hr := h.raw.seats0 hS hn.1 (hn.2 h.raw.np).1 k
  obtain ⟨G, g1, g2⟩ := hr.tick
  exact ⟨⟨hr.obj, hr.seat, ⟨G, g1, fun j hj => (g2 j hj).turn ((hn.2 h.raw.np).2 j)⟩, hr.np, hr.ne, hr.adr⟩, h.port.wrote k (fun b b1 _ e => by have := h.far.2.2.1; cases e; omega), h.far, Nat.le_trans h.top k.size⟩
/-- behind an event -/
theorem ends {s' : SS} (h : LkM w L f σ) (hS : SeatAt w' L.p L.b s') (hn : s'.n = f.s.n) (hp : s'.Np) (hs : σ = s'.st) (k : Wrote (One L.b) w w') : LkAt w' L { f with s := s' } := by
  subst hs
  exact ⟨h.raw.seats0 hS hn hp k, h.port.wrote k (fun b b1 _ e => by have := h.far.2.2.1; cases e; omega), h.far, Nat.le_trans h.top k.size⟩
theorem ports {ps' : PSta} (h : LkM w L f σ) (hP : PortAt w' L.q L.hs ps') (k : Wrote (Rng L.q.k0 L.q.k3) w w') : LkM w' L { f with ps := ps' } σ :=
  ⟨h.raw.wrote k (fun e => by have := h.far.1; unfold Rng at e; omega) (fun e => by have := h.far.2.1; unfold Rng at e; omega) (fun e => by have := h.far.2.2.1; unfold Rng at e; omega) (fun e => by have := h.far.2.2.2; unfold Rng at e; omega), hP, h.far, Nat.le_trans h.top k.size⟩
theorem turns (h : LkM w L f σ) {σ' : Nat → Int} {k : Nat} {a : Ab} (g : FlRaw w' L (.pointer (some ⟨L.q.p, 0, none⟩)) f.s σ' (upd f.ab k a) ∧ Wrote (One L.tb) w w') :
    LkM w' L (f.put k a) σ' ∧ Wrote (One L.tb) w w' :=
  ⟨⟨by rw [FL.ab_put]; exact g.1, h.port.wrote g.2 (fun b b1 _ e => by have := h.far.2.2.2; cases e; omega), h.far, Nat.le_trans h.top g.2.size⟩, g.2⟩
theorem turn0 (h : LkM w L f σ) {σ' : Nat → Int} {k : Nat} {a : Ab} (g : FlRaw w L (.pointer (some ⟨L.q.p, 0, none⟩)) f.s σ' (upd f.ab k a)) : LkM w L (f.put k a) σ' := ⟨by rw [FL.ab_put]; exact g, h.port, h.far, h.top⟩
theorem place6 (h : LkM w L f σ) {k : Nat} (hk : k < f.s.n) : ∃ p : Pc, PlI (σ k) (f.ab k) p ∧ w.cell? ⟨L.tb, k * 6, none⟩ = some (.int .i64 (f.cl k)) ∧ w.cell? ⟨L.tb, k * 6 + 1, none⟩ = some (.int .u32 (f.nd k)) ∧
    w.cell? ⟨L.tb, k * 6 + 2, none⟩ = some (.int .u32 p.ah) ∧ w.cell? ⟨L.tb, k * 6 + 3, none⟩ = some (.int .i64 (f.pc k)) ∧ w.cell? ⟨L.tb, k * 6 + 4, none⟩ = some (.int .u32 p.la) ∧ w.cell? ⟨L.tb, k * 6 + 5, none⟩ = some (.int .u32 p.wa) := h.raw.place6 hk
theorem wf (h : LkM w L f σ) (j : Int) : 0 ≤ loadI f.ps.ws j ∧ loadI f.ps.ws j < 4294967296 := h.port.mem.load_rng j
theorem tell (h : LkM w L f σ) (t K a : Int) : 0 ≤ tellS f.ps t K a ∧ tellS f.ps t K a < 4294967296 := by
  unfold tellS tellI
  repeat' split
  · exact h.wf a
  all_goals omega
theorem lf_lt (h : LkM w L f σ) {k : Nat} (hk : LF L k) : k < w.heap.size := by
  rcases hk with rfl | rfl | hk
  · exact blk_lt h.raw.seat.ctx
  · exact h.raw.ltt
  · exact Nat.lt_of_lt_of_le hk.2 h.top
/-- whatever a place's context is said to do -/
theorem same (h : LkM w L f σ) {σ' : Nat → Int} (e : σ = σ') : LkM w L f σ' := by subst e; exact h
end LkM

/-- behind a call: what it told, what is there now, what it may have turned -/
def LmPost (w : World) (L : Lp) (f : FL) (σ : Nat → Int) (v : Value) (e : Ending) (w' : World) : Prop := e = .returned v ∧ LkM w' L f σ ∧ Wrote (LF L) w w'
abbrev LkPost (w : World) (L : Lp) (f : FL) (v : Value) (e : Ending) (w' : World) : Prop := LmPost w L f f.s.st v e w'
theorem lf_b {w w' : World} {L : Lp} (k : Wrote (One L.b) w w') : Wrote (LF L) w w' := k.mono fun _ _ e => .inl e
theorem lf_t {w w' : World} {L : Lp} (k : Wrote (One L.tb) w w') : Wrote (LF L) w w' := k.mono fun _ _ e => .inr (.inl e)
theorem lf_q {w w' : World} {L : Lp} (k : Wrote (Rng L.q.k0 L.q.k3) w w') : Wrote (LF L) w w' := k.mono fun _ _ e => .inr (.inr e)
theorem lf_nil {w w' : World} {L : Lp} (k : Wrote Nil w w') : Wrote (LF L) w w' := k.mono fun _ _ e => e.elim
theorem lf_trans {w w' w'' : World} {L : Lp} (h : Wrote (LF L) w w') (k : Wrote (LF L) w' w'') : Wrote (LF L) w w'' := h.trans k fun _ _ e => e

/-! ### a result that is a struct: its block -/
def didC (d : Dd) : Array Value := #[.int .i64 d.ev, .bool d.enq, .bool d.arr, .bool d.lead]
theorem didC_no : didC Dd.no = #[.int .i64 0, .bool false, .bool false, .bool false] := rfl
/-- behind a call's first step: its result's block B was laid, then what is said came -/
structure Fr (w : World) (B : Nat) (Y : World) (L : Lp) (f : FL) (σ : Nat → Int) : Prop where
  lk : LkM Y L f σ
  wr : Wrote (LF L) w Y
  res : Y.heap[B]? = some (.cells (didC Dd.no) 54 (0, 0))
  new : w.heap.size ≤ B
namespace Fr
variable {w X Y : World} {L : Lp} {f f' : FL} {B : Nat} {σ σ' : Nat → Int}
theorem start (h : LkM w L f σ) : Fr w w.heap.size (w.alloc (.cells #[.int .i64 0, .bool false, .bool false, .bool false] 54)) L f σ :=
  ⟨h.after ((Wrote.refl _ w).alloc _), (Wrote.refl _ w).alloc _, Go.Deep.blk_alloc_new w _, Nat.le_refl _⟩
theorem after (h : Fr w B X L f σ) (k : Wrote Nil X Y) : Fr w B Y L f σ := ⟨h.lk.after k, h.wr.trans k fun _ _ e => e.elim, (k.block _ (blk_lt h.res) id).trans h.res, h.new⟩
theorem drew (h : Fr w B X L f σ) : Fr w B X.drew L f σ := h.after ((Wrote.refl _ X).drew)
theorem call {f0 : FL} {σ0 : Nat → Int} (h0 : LkM w L f' σ') (h : Fr w B X L f σ) (hl : LkM Y L f0 σ0) (k : Wrote (LF L) X Y) : Fr w B Y L f0 σ0 :=
  ⟨hl, h.wr.trans k fun _ _ e => e, (k.block _ (blk_lt h.res) (fun e => by have := h0.lf_lt e; have := h.new; omega)).trans h.res, h.new⟩
theorem cell (h : Fr w B X L f σ) : X.cell? ⟨B, 0, none⟩ = some (.int .i64 0) ∧ X.cell? ⟨B, 1, none⟩ = some (.bool false) ∧ X.cell? ⟨B, 2, none⟩ = some (.bool false) ∧ X.cell? ⟨B, 3, none⟩ = some (.bool false) := by
  rw [blk_cell h.res, blk_cell h.res, blk_cell h.res, blk_cell h.res]; exact ⟨rfl, rfl, rfl, rfl⟩
theorem frz (h : Fr w B X L f σ) : X.frozen? ⟨B, 0, none⟩ = false ∧ X.frozen? ⟨B, 1, none⟩ = false ∧ X.frozen? ⟨B, 2, none⟩ = false ∧ X.frozen? ⟨B, 3, none⟩ = false :=
  ⟨blk_frozen h.res 0, blk_frozen h.res 1, blk_frozen h.res 2, blk_frozen h.res 3⟩
end Fr
/-- the four cells of a struct stored -/
theorem set4 {Y : World} {B : Nat} {t : TypeId} {cs : Array Value} (h : Y.heap[B]? = some (.cells cs t (0, 0))) (h4 : cs.size = 4) (x0 x1 x2 x3 : Value) :
    ((((Y.setCell ⟨B, 0, none⟩ x0).setCell ⟨B, 1, none⟩ x1).setCell ⟨B, 2, none⟩ x2).setCell ⟨B, 3, none⟩ x3).heap[B]? = some (.cells #[x0, x1, x2, x3] t (0, 0)) := by
  rw [blk_setCell (blk_setCell (blk_setCell (blk_setCell h 0 x0) 1 x1) 2 x2) 3 x3]
  obtain ⟨l⟩ := cs
  match l, h4 with
  | [a, b, c, d], _ => rfl
theorem wrote4 (Y : World) (B : Nat) (x0 x1 x2 x3 : Value) : Wrote (One B) Y ((((Y.setCell ⟨B, 0, none⟩ x0).setCell ⟨B, 1, none⟩ x1).setCell ⟨B, 2, none⟩ x2).setCell ⟨B, 3, none⟩ x3) :=
  ((((Wrote.refl (One B) Y).setCell ⟨B, 0, none⟩ x0 fun _ => rfl).setCell ⟨B, 1, none⟩ x1 fun _ => rfl).setCell ⟨B, 2, none⟩ x2 fun _ => rfl).setCell ⟨B, 3, none⟩ x3 fun _ => rfl
/-- the end of a call whose result is told -/
theorem Fr.told {w Y : World} {L : Lp} {f f0 : FL} {B : Nat} {σ σ0 : Nat → Int} (h0 : LkM w L f0 σ0) (h : Fr w B Y L f σ) (d : Dd) :
    LmPost w L f σ d.val (.returned d.val) ((((Y.setCell ⟨B, 0, none⟩ (.int .i64 d.ev)).setCell ⟨B, 1, none⟩ (.bool d.enq)).setCell ⟨B, 2, none⟩ (.bool d.arr)).setCell ⟨B, 3, none⟩ (.bool d.lead)) := by
  have k := wrote4 Y B (.int .i64 d.ev) (.bool d.enq) (.bool d.arr) (.bool d.lead)
  have hB : ∀ j, j < w.heap.size → ¬ One B j := fun j hj e => by have := h.new; cases e; omega
  refine ⟨rfl, h.lk.wrote k (fun b b2 => hB b (Nat.lt_of_lt_of_le b2 h0.top)), ?_⟩
  exact h.wr.trans k fun b hb e => (hB b hb e).elim
theorem i_did : (Tryz.prog.info? 54).map (·.size) = some 4 := by kernel_rfl
end Go.Proofs.YteacdcdjdbobnaaGreat
