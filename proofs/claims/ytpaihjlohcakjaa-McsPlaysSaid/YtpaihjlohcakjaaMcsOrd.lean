/- What holds of an MCS lock at all times, and what becomes of that at each step; no walk. -/
import Derived.Test.YtpaihjlohcakjaaMcsCor
namespace Go.Proofs.Ytpaihjlohcakjaa
set_option linter.unusedVariables false
set_option maxRecDepth 100000

/-! ### an access -/
theorem do_load {ps : PSta} {k i : Nat} {a : Int} (hk : k < ps.ac.length) (ha : a = ((i : Nat) : Int)) (hi : i < ps.ws.length) :
    tellS ps k 1 a = ps.ws.getD i 0 ∧ (doS ps k 1 a 0 0).ws = ps.ws ∧ (doS ps k 1 a 0 0).ac.length = ps.ac.length ∧ (doS ps k 1 a 0 0).D.length = ps.D.length + 1 := by
  subst ha
  have ho : okS ps k 1 (i : Int) = true := by simp [okS, okT]; omega
  refine ⟨?_, ?_, ?_, ?_⟩
  · unfold tellS; rw [ho]; simp [tellI, loadI]
  · unfold doS; rw [ho]; simp [doL]
  · unfold doS; rw [ho]; simp [touchS, bump_len]
  · unfold doS; rw [ho]; simp [touchS]
theorem do_store {ps : PSta} {k i : Nat} {a v : Int} (hk : k < ps.ac.length) (ha : a = ((i : Nat) : Int)) (hi : i < ps.ws.length) :
    (doS ps k 2 a 0 v).ws = ps.ws.set i v ∧ (doS ps k 2 a 0 v).ac.length = ps.ac.length ∧ (doS ps k 2 a 0 v).D.length = ps.D.length + 1 := by
  subst ha
  have ho : okS ps k 2 (i : Int) = true := by simp [okS, okT]; omega
  refine ⟨?_, ?_, ?_⟩
  · unfold doS; rw [ho]; simp [doL, storeL]
  · unfold doS; rw [ho]; simp [touchS, bump_len]
  · unfold doS; rw [ho]; simp [touchS]
theorem do_swap {ps : PSta} {k i : Nat} {a v : Int} (hk : k < ps.ac.length) (ha : a = ((i : Nat) : Int)) (hi : i < ps.ws.length) :
    tellS ps k 3 a = ps.ws.getD i 0 ∧ (doS ps k 3 a 0 v).ws = ps.ws.set i v ∧ (doS ps k 3 a 0 v).ac.length = ps.ac.length ∧ (doS ps k 3 a 0 v).D.length = ps.D.length + 1 := by
  subst ha
  have ho : okS ps k 3 (i : Int) = true := by simp [okS, okT]; omega
  refine ⟨?_, ?_, ?_, ?_⟩
  · unfold tellS; rw [ho]; simp [tellI, loadI]
  · unfold doS; rw [ho]; simp [doL, storeL]
  · unfold doS; rw [ho]; simp [touchS, bump_len]
  · unfold doS; rw [ho]; simp [touchS]
theorem do_cas {ps : PSta} {k i : Nat} {a old v : Int} (hk : k < ps.ac.length) (ha : a = ((i : Nat) : Int)) (hi : i < ps.ws.length) :
    (casT ps k a old = true ↔ ps.ws.getD i 0 = old) ∧ (doS ps k 4 a old v).ws = (if ps.ws.getD i 0 = old then ps.ws.set i v else ps.ws) ∧ (doS ps k 4 a old v).ac.length = ps.ac.length ∧ (doS ps k 4 a old v).D.length = ps.D.length + 1 := by
  subst ha
  have ho : okS ps k 4 (i : Int) = true := by simp [okS, okT]; omega
  have hb : casB ps.ws (i : Int) old = decide (ps.ws.getD i 0 = old) := by unfold casB; rw [has_at hi, load_at]; simp
  refine ⟨?_, ?_, ?_, ?_⟩
  · unfold casT; rw [hb, okT_at hk hi]; simp
  · unfold doS; rw [ho]
    show casL ps.ws (i : Int) old v = _
    unfold casL
    rw [hb]
    by_cases e : ps.ws.getD i 0 = old
    · rw [decide_eq_true e, if_pos rfl, if_pos e]; simp [storeL]
    · rw [decide_eq_false e, if_neg (by decide), if_neg e]
  · unfold doS; rw [ho]; simp [touchS, bump_len]
  · unfold doS; rw [ho]; simp [touchS]

theorem fin_none {s : SS} {k : Nat} {ev : Int} (h : behindI (s.st k) ev = none) : s.fin k ev = s := by
  unfold SS.fin endO
  split
  · rename_i y hy
    split at hy
    · rw [Int.toNat_natCast, h] at hy; cases hy
    · cases hy
  · rfl
theorem fin_some {s : SS} {k : Nat} {ev y : Int} (hk : k < s.n) (h : behindI (s.st k) ev = some y) : s.fin k ev = s.set k y 0 := by
  have e : endO s k ev = some y := by unfold endO; rw [if_pos (by omega), Int.toNat_natCast, h]
  unfold SS.fin
  rw [e, Int.toNat_natCast]
theorem fin_no (s : SS) (t : Nat) : s.fin t Dd.no.ev = s := fin_none (by
  unfold behindI
  rw [if_neg (fun q => absurd q.2 (by decide)), if_neg (fun q => q.2.elim (fun q => absurd q (by decide)) fun q => absurd q (by decide)), if_neg (fun q => absurd q.2 (by decide)), if_neg (fun q => q.2.elim (fun q => absurd q (by decide)) fun q => absurd q (by decide))])

/-! ### the words -/
def wT (ps : PSta) : Int := ps.ws.getD 0 0
def wN (ps : PSta) (i : Nat) : Int := ps.ws.getD (1 + 2 * i) 0
def wK (ps : PSta) (i : Nat) : Int := ps.ws.getD (2 + 2 * i) 0
theorem getD_set_same {l : List Int} {i : Nat} (v : Int) (h : i < l.length) : (l.set i v).getD i 0 = v := by simp [h]
theorem getD_set_other {l : List Int} {i j : Nat} (v : Int) (h : i ≠ j) : (l.set i v).getD j 0 = l.getD j 0 := by
  rw [List.getD_eq_getElem?_getD, List.getElem?_set, if_neg h, ← List.getD_eq_getElem?_getD]
theorem ws_same {ps ps' : PSta} (h : ps'.ws = ps.ws) : wT ps' = wT ps ∧ wN ps' = wN ps ∧ wK ps' = wK ps := by
  unfold wT
  refine ⟨by rw [h], funext fun i => ?_, funext fun i => ?_⟩
  · unfold wN; rw [h]
  · unfold wK; rw [h]
theorem ws_tail {ps ps' : PSta} {v : Int} (hl : 0 < ps.ws.length) (h : ps'.ws = ps.ws.set 0 v) : wT ps' = v ∧ wN ps' = wN ps ∧ wK ps' = wK ps := by
  unfold wT
  refine ⟨by rw [h]; exact getD_set_same v hl, funext fun i => ?_, funext fun i => ?_⟩
  · unfold wN; rw [h, getD_set_other _ (by omega)]
  · unfold wK; rw [h, getD_set_other _ (by omega)]
theorem ws_next {ps ps' : PSta} {v : Int} {i n : Nat} (hn : ps.ws.length = 2 * n + 1) (hi : i < n) (h : ps'.ws = ps.ws.set (1 + 2 * i) v) : wT ps' = wT ps ∧ wN ps' = upd (wN ps) i v ∧ wK ps' = wK ps := by
  unfold wT
  refine ⟨by rw [h, getD_set_other _ (by omega)], funext fun j => ?_, funext fun j => ?_⟩
  · unfold wN upd
    rw [h]
    by_cases e : j = i
    · subst e; rw [if_pos rfl]; exact getD_set_same v (by omega)
    · rw [if_neg e, getD_set_other _ (by omega)]
  · unfold wK; rw [h, getD_set_other _ (by omega)]
theorem ws_lock {ps ps' : PSta} {v : Int} {i n : Nat} (hn : ps.ws.length = 2 * n + 1) (hi : i < n) (h : ps'.ws = ps.ws.set (2 + 2 * i) v) : wT ps' = wT ps ∧ wN ps' = wN ps ∧ wK ps' = upd (wK ps) i v := by
  unfold wT
  refine ⟨by rw [h, getD_set_other _ (by omega)], funext fun j => ?_, funext fun j => ?_⟩
  · unfold wN; rw [h, getD_set_other _ (by omega)]
  · unfold wK upd
    rw [h]
    by_cases e : j = i
    · subst e; rw [if_pos rfl]; exact getD_set_same v (by omega)
    · rw [if_neg e, getD_set_other _ (by omega)]

/-! ### the queue -/
structure OrdJ (f : FL) (g : Option Nat) (W : List Nat) : Prop where
  n8 : f.s.n ≤ 8
  len : f.ps.ws.length = 2 * f.s.n + 1
  ac : f.ps.ac.length = f.s.n
  cor : Cor f.s.n f.s.st f.pc f.oth (wT f.ps) (wN f.ps) (wK f.ps) g W
/-- how far one has come -/
def phs (x p : Int) : Nat := if x = 1 then (10 - p).toNat else if x = 3 then (4 - p).toNat else if x = 2 then 5 else 0
/-- a step: what comes of the queue -/
inductive OrdJ.StepQ (W : List Nat) (t : Int) (d : Dd) (W' : List Nat) : Prop where
  | same (h0 : d.enq = false) (h1 : d.ev ≠ 1) (h2 : d.ev ≠ 2) (e : W' = W) : StepQ W t d W'
  | enq (hd : d = ⟨0, true, false, false⟩) (k : Nat) (ht : t = k) (e : W' = W ++ [k]) : StepQ W t d W'
  | grant (hd : d = ⟨1, false, false, false⟩) (k : Nat) (ht : t = k) (e : W = k :: W') (hn : k ∉ W') : StepQ W t d W'
  | both (hd : d = ⟨1, true, false, false⟩) (k : Nat) (ht : t = k) (e : W = []) (e' : W' = []) : StepQ W t d W'
/-- a step of k leaves f' and tells d: k does x, and has come to p -/
structure Stp (f f' : FL) (W : List Nat) (k : Nat) (d : Dd) (g' : Option Nat) (W' : List Nat) (x p : Int) : Prop where
  ord : OrdJ f' g' W'
  q : OrdJ.StepQ W k d W'
  st : ∀ j, f'.s.st j = upd f.s.st k x j
  n : f'.s.n = f.s.n
  pc : ∀ j, f'.pc j = upd f.pc k p j
  D : f'.ps.D.length ≤ f.ps.D.length + 1
  on : phs x p + 1 ≤ phs (f.s.st k) (f.pc k) ∨ f.s.st k = 4 ∨ (x = f.s.st k ∧ p = f.pc k ∧ f'.ps.ws = f.ps.ws ∧ (f.s.st k = 0 ∨ f.s.st k = 2 ∨ (f.s.st k = 1 ∧ f.pc k = 4 ∧ wK f.ps k ≠ 0) ∨ (f.s.st k = 3 ∧ f.pc k = 2 ∧ wN f.ps k = 0)))
  ev : d.ev = 1 → f.s.st k = 1 ∧ x = 2 ∧ p = 0 ∧ ∃ b, d = ⟨1, b, false, false⟩
  seat : x = f.s.st k → f'.s = f.s
  s1 : f.s.st k = 1 → (x = 1 ∧ p ≠ 0) ∨ (x = 2 ∧ d.ev = 1)
  s3 : f.s.st k = 3 → x = 3 ∨ x = 0
  s0 : f.s.st k = 0 → x = 0 ∧ p = f.pc k
theorem upd_self {α : Type} (f : Nat → α) (k : Nat) : ∀ j, f j = upd f k (f k) j := fun j => by
  unfold upd; split
  · rename_i e; rw [e]
  · rfl
namespace OrdJ
variable {f : FL} {g : Option Nat} {W : List Nat} {L : Lp}
theorem lock (h : OrdJ f g W) (t d : Int) : OrdJ (f.lock t d) g W := by
  unfold FL.lock SS.lock
  split
  · rename_i he
    unfold lockE at he
    split at he
    · rename_i hc
      split at he
      · rename_i hs
        exact ⟨h.n8, h.len, h.ac, h.cor.lock (by omega) hs⟩
      · omega
    · omega
  · exact h
theorem turn (h : OrdJ f g W) (t x : Int) (hx : x = 3 ∨ x = 4) : OrdJ (f.turn t x) g W := by
  unfold FL.turn SS.turn
  split
  · rename_i he
    unfold turnE at he
    split at he
    · rename_i hc
      split at he
      · omega
      · split at he
        · rename_i hs
          exact ⟨h.n8, h.len, h.ac, h.cor.turn (by omega) (.inl hs) (.inr hx)⟩
        · omega
    · omega
  · exact h
theorem probe (h : OrdJ f g W) (t : Int) : OrdJ (f.probe t) g W := by
  unfold FL.probe SS.probe
  split
  · exact h.turn t 4 (.inr rfl)
  · exact h
theorem at_none {t : Int} (hk : ¬ ((0 : Int) ≤ t ∧ t < f.s.n)) : f.did L t t = Dd.no ∧ f.step L t t = f := by
  have e : f.did L t t = Dd.no := by unfold FL.did; rw [if_neg hk]
  have em : f.mid L t t = f := by unfold FL.mid; rw [if_neg hk]
  refine ⟨e, ?_⟩
  have e0 : f.s.fin t Dd.no.ev = f.s := by
    have e0 : endO f.s t Dd.no.ev = none := by unfold endO; rw [if_neg hk]
    unfold SS.fin
    rw [e0]
  unfold FL.step
  rw [e, em, e0]
theorem at_idle {k : Nat} (hk : k < f.s.n) (s1 : f.s.st k ≠ 1) (s3 : f.s.st k ≠ 3) (s4 : f.s.st k ≠ 4) : f.did L k k = Dd.no ∧ f.step L k k = f := by
  have ht : (0 : Int) ≤ (k : Int) ∧ (k : Int) < f.s.n := by omega
  have e : f.did L k k = Dd.no := by unfold FL.did; rw [if_pos ht, Int.toNat_natCast, if_neg s1, if_neg s3, if_neg s4]
  have em : f.mid L k k = f := by unfold FL.mid; rw [if_pos ht, Int.toNat_natCast, if_neg s1, if_neg s3, if_neg s4]
  refine ⟨e, ?_⟩
  unfold FL.step
  rw [e, em, fin_no]
theorem at_one {k : Nat} (hk : k < f.s.n) (s1 : f.s.st k = 1) : f.did L k k = f.acqD L k k ∧ f.step L k k = { f.acq L k k with s := f.s.fin k (f.acqD L k k).ev } := by
  have ht : (0 : Int) ≤ (k : Int) ∧ (k : Int) < f.s.n := by omega
  have e : f.did L k k = f.acqD L k k := by unfold FL.did; rw [if_pos ht, Int.toNat_natCast, if_pos s1]
  have em : f.mid L k k = f.acq L k k := by unfold FL.mid; rw [if_pos ht, Int.toNat_natCast, if_pos s1]
  refine ⟨e, ?_⟩
  unfold FL.step
  rw [e, em]
theorem at_three {k : Nat} (hk : k < f.s.n) (s3 : f.s.st k = 3) : f.did L k k = f.relD L k k ∧ f.step L k k = { f.rel L k k with s := f.s.fin k (f.relD L k k).ev } := by
  have ht : (0 : Int) ≤ (k : Int) ∧ (k : Int) < f.s.n := by omega
  have e : f.did L k k = f.relD L k k := by unfold FL.did; rw [if_pos ht, Int.toNat_natCast, if_neg (by omega), if_pos s3]
  have em : f.mid L k k = f.rel L k k := by unfold FL.mid; rw [if_pos ht, Int.toNat_natCast, if_neg (by omega), if_pos s3]
  refine ⟨e, ?_⟩
  unfold FL.step
  rw [e, em]
theorem at_four {k : Nat} (hk : k < f.s.n) (s4 : f.s.st k = 4) : f.did L k k = f.askD L k k ∧ f.step L k k = { f.ask L k k with s := f.s.fin k (f.askD L k k).ev } := by
  have ht : (0 : Int) ≤ (k : Int) ∧ (k : Int) < f.s.n := by omega
  have e : f.did L k k = f.askD L k k := by unfold FL.did; rw [if_pos ht, Int.toNat_natCast, if_neg (by omega), if_neg (by omega), if_pos s4]
  have em : f.mid L k k = f.ask L k k := by unfold FL.mid; rw [if_pos ht, Int.toNat_natCast, if_neg (by omega), if_neg (by omega), if_pos s4]
  refine ⟨e, ?_⟩
  unfold FL.step
  rw [e, em]
/-- the words turn -/
theorem put (h : OrdJ f g W) {f' : FL} {g' : Option Nat} {W' : List Nat} (hn : f'.s.n = f.s.n) (hl : f'.ps.ws.length = f.ps.ws.length) (ha : f'.ps.ac.length = f.ps.ac.length) (hc : Cor f.s.n f'.s.st f'.pc f'.oth (wT f'.ps) (wN f'.ps) (wK f'.ps) g' W') : OrdJ f' g' W' :=
  ⟨by rw [hn]; exact h.n8, by rw [hl, hn]; exact h.len, by rw [ha, hn]; exact h.ac, by rw [hn]; exact hc⟩
theorem nxA (h2 : L.a2 = 1) (i : Nat) : L.nx (i : Int) = ((1 + 2 * i : Nat) : Int) := by unfold Lp.nx; rw [h2]; omega
theorem lkA (h2 : L.a2 = 1) (i : Nat) : L.lk (i : Int) = ((2 + 2 * i : Nat) : Int) := by unfold Lp.lk; rw [h2]; omega

/-- (1) its first step -/
theorem at_nxt0 (h : OrdJ f g W) (h2 : L.a2 = 1) {k : Nat} (hk : k < f.s.n) (s1 : f.s.st k = 1) (p0 : f.pc k = 0) :
    f.did L k k = Dd.no ∧ ∃ ps, f.step L k k = { f with pc := upd f.pc k 1, ps := ps } ∧ OrdJ { f with pc := upd f.pc k 1, ps := ps } g W ∧ ps.D.length = f.ps.D.length + 1 := by
  obtain ⟨ed, es⟩ := at_one (L := L) hk s1
  have hl := h.len
  have hac : k < f.ps.ac.length := by rw [h.ac]; exact hk
  obtain ⟨b, c, d⟩ := do_store (v := 0) hac (nxA h2 k) (show 1 + 2 * k < f.ps.ws.length by omega)
  have e1 : f.acq L k k = { f with pc := upd f.pc k 1, ps := doS f.ps k 2 (L.nx k) 0 0 } := by unfold FL.acq; rw [if_pos p0]
  have e2 : f.acqD L k k = Dd.no := by unfold FL.acqD; rw [if_pos p0]
  rw [e1, e2, fin_no] at es
  rw [e2] at ed
  obtain ⟨wt, wn, wk⟩ := ws_next hl hk b
  refine ⟨ed, _, es, h.put rfl (by show (doS _ _ _ _ _ _).ws.length = _; rw [b, List.length_set]) c ?_, d⟩
  show Cor _ _ (upd f.pc k 1) _ (wT (doS _ _ _ _ _ _)) (wN (doS _ _ _ _ _ _)) (wK (doS _ _ _ _ _ _)) g W
  rw [wt, wn, wk]
  exact h.cor.nxt0 hk s1 p0
theorem stp1 (h : OrdJ f g W) (h1 : L.a1 = 0) (h2 : L.a2 = 1) {k : Nat} (hk : k < f.s.n) (s1 : f.s.st k = 1) : ∃ g' W' x p, Stp f (f.step L k k) W k (f.did L k k) g' W' x p := by
  obtain ⟨ed, es⟩ := at_one (L := L) hk s1
  rw [ed, es]
  have hl := h.len
  have hac : k < f.ps.ac.length := by rw [h.ac]; exact hk
  have prg := h.cor.prg k
  by_cases p0 : f.pc k = 0
  · obtain ⟨b, c, d⟩ := do_store (v := 0) hac (nxA h2 k) (show 1 + 2 * k < f.ps.ws.length by omega)
    have e1 : f.acq L k k = { f with pc := upd f.pc k 1, ps := doS f.ps k 2 (L.nx k) 0 0 } := by unfold FL.acq; rw [if_pos p0]
    have e2 : f.acqD L k k = Dd.no := by unfold FL.acqD; rw [if_pos p0]
    rw [e1, e2, fin_no]
    obtain ⟨wt, wn, wk⟩ := ws_next hl hk b
    refine ⟨g, W, 1, 1, h.put rfl (by show (doS _ _ _ _ _ _).ws.length = _; rw [b, List.length_set]) c ?_, .same rfl (by decide) (by decide) rfl, fun j => by rw [← s1]; exact upd_self _ _ j, rfl, fun _ => rfl, Nat.le_of_eq d, .inl (by rw [s1, p0]; decide), fun q => absurd q (by decide), fun _ => rfl, fun _ => .inl ⟨rfl, by decide⟩, fun q => by omega, fun q => by omega⟩
    show Cor _ _ (upd f.pc k 1) _ (wT (doS _ _ _ _ _ _)) (wN (doS _ _ _ _ _ _)) (wK (doS _ _ _ _ _ _)) g W
    rw [wt, wn, wk]
    exact h.cor.nxt0 hk s1 p0
  by_cases p1 : f.pc k = 1
  · obtain ⟨a, b, c, d⟩ := do_swap (v := (k : Int) + 1) hac (show L.a1 = ((0 : Nat) : Int) from h1) (show 0 < f.ps.ws.length by omega)
    have hT : tellS f.ps k 3 L.a1 = wT f.ps := a
    have e1 : f.acq L k k = { f with pc := upd f.pc k (if wT f.ps = 0 then 0 else 2), oth := upd f.oth k (wT f.ps), ps := doS f.ps k 3 L.a1 0 ((k : Int) + 1) } := by unfold FL.acq; rw [if_neg p0, if_pos p1, hT]
    have e2 : f.acqD L k k = ⟨if wT f.ps = 0 then 1 else 0, true, false, false⟩ := by unfold FL.acqD; rw [if_neg p0, if_pos p1, hT]
    obtain ⟨wt, wn, wk⟩ := ws_tail (by omega) b
    by_cases q : g.toList ++ W = []
    · have hT0 : wT f.ps = 0 := by rw [h.cor.tl, q]; rfl
      obtain ⟨q1, rfl⟩ := List.append_eq_nil_iff.1 q
      have hg : g = none := by cases g with
        | none => rfl
        | some a => cases q1
      subst hg
      rw [e1, e2, hT0, if_pos rfl, if_pos rfl, fin_some hk (by rw [s1]; rfl : behindI (f.s.st k) 1 = some 2)]
      refine ⟨some k, [], 2, 0, h.put rfl (by show (doS _ _ _ _ _ _).ws.length = _; rw [b, List.length_set]) c ?_, .both rfl k rfl rfl rfl, fun _ => rfl, rfl, fun _ => rfl, Nat.le_of_eq d, .inl (by rw [s1, p1]; decide), fun _ => ⟨s1, rfl, rfl, true, rfl⟩, fun q => by omega, fun _ => .inr ⟨rfl, rfl⟩, fun q => by omega, fun q => by omega⟩
      show Cor _ (upd f.s.st k 2) (upd f.pc k 0) (upd f.oth k 0) (wT (doS _ _ _ _ _ _)) (wN (doS _ _ _ _ _ _)) (wK (doS _ _ _ _ _ _)) (some k) []
      rw [wt, wn, wk]
      exact h.cor.enq0 hk s1 p1 0
    · have hT0 : wT f.ps ≠ 0 := by
        rw [h.cor.tl]
        cases hq : g.toList ++ W with
        | nil => exact absurd hq q
        | cons i r =>
          obtain ⟨j, _, hj⟩ := lastM_pos 0 i r
          rw [hj]; omega
      rw [e1, e2, if_neg hT0, if_neg hT0]
      rw [show f.s.fin k (⟨0, true, false, false⟩ : Dd).ev = f.s from fin_no f.s k]
      refine ⟨g, W ++ [k], 1, 2, h.put rfl (by show (doS _ _ _ _ _ _).ws.length = _; rw [b, List.length_set]) c ?_, .enq rfl k rfl rfl, fun j => by rw [← s1]; exact upd_self _ _ j, rfl, fun _ => rfl, Nat.le_of_eq d, .inl (by rw [s1, p1]; decide), fun q => absurd q (by decide), fun _ => rfl, fun _ => .inl ⟨rfl, by decide⟩, fun q => by omega, fun q => by omega⟩
      show Cor _ _ (upd f.pc k 2) (upd f.oth k (wT f.ps)) (wT (doS _ _ _ _ _ _)) (wN (doS _ _ _ _ _ _)) (wK (doS _ _ _ _ _ _)) g (W ++ [k])
      rw [wt, wn, wk]
      exact h.cor.enq q hk s1 p1
  by_cases p2 : f.pc k = 2
  · obtain ⟨b, c, d⟩ := do_store (v := 1) hac (lkA h2 k) (show 2 + 2 * k < f.ps.ws.length by omega)
    have e1 : f.acq L k k = { f with pc := upd f.pc k 3, ps := doS f.ps k 2 (L.lk k) 0 1 } := by unfold FL.acq; rw [if_neg p0, if_neg p1, if_pos p2]
    have e2 : f.acqD L k k = Dd.no := by unfold FL.acqD; rw [if_neg p0, if_neg p1, if_pos p2]
    rw [e1, e2, fin_no]
    obtain ⟨wt, wn, wk⟩ := ws_lock hl hk b
    refine ⟨g, W, 1, 3, h.put rfl (by show (doS _ _ _ _ _ _).ws.length = _; rw [b, List.length_set]) c ?_, .same rfl (by decide) (by decide) rfl, fun j => by rw [← s1]; exact upd_self _ _ j, rfl, fun _ => rfl, Nat.le_of_eq d, .inl (by rw [s1, p2]; decide), fun q => absurd q (by decide), fun _ => rfl, fun _ => .inl ⟨rfl, by decide⟩, fun q => by omega, fun q => by omega⟩
    show Cor _ _ (upd f.pc k 3) _ (wT (doS _ _ _ _ _ _)) (wN (doS _ _ _ _ _ _)) (wK (doS _ _ _ _ _ _)) g W
    rw [wt, wn, wk]
    exact h.cor.lkd hk s1 p2
  by_cases p3 : f.pc k = 3
  · obtain ⟨i, hi, ho⟩ := h.cor.ahead hk s1 (.inr p3)
    have hi1 : f.oth k - 1 = (i : Int) := by omega
    obtain ⟨b, c, d⟩ := do_store (v := (k : Int) + 1) hac (show L.nx (f.oth k - 1) = ((1 + 2 * i : Nat) : Int) by rw [hi1]; exact nxA h2 i) (show 1 + 2 * i < f.ps.ws.length by omega)
    have e1 : f.acq L k k = { f with pc := upd f.pc k 4, ps := doS f.ps k 2 (L.nx (f.oth k - 1)) 0 ((k : Int) + 1) } := by unfold FL.acq; rw [if_neg p0, if_neg p1, if_neg p2, if_pos p3]
    have e2 : f.acqD L k k = Dd.no := by unfold FL.acqD; rw [if_neg p0, if_neg p1, if_neg p2, if_pos p3]
    rw [e1, e2, fin_no]
    obtain ⟨wt, wn, wk⟩ := ws_next hl hi b
    refine ⟨g, W, 1, 4, h.put rfl (by show (doS _ _ _ _ _ _).ws.length = _; rw [b, List.length_set]) c ?_, .same rfl (by decide) (by decide) rfl, fun j => by rw [← s1]; exact upd_self _ _ j, rfl, fun _ => rfl, Nat.le_of_eq d, .inl (by rw [s1, p3]; decide), fun q => absurd q (by decide), fun _ => rfl, fun _ => .inl ⟨rfl, by decide⟩, fun q => by omega, fun q => by omega⟩
    show Cor _ _ (upd f.pc k 4) _ (wT (doS _ _ _ _ _ _)) (wN (doS _ _ _ _ _ _)) (wK (doS _ _ _ _ _ _)) g W
    rw [wt, wn, wk]
    exact h.cor.nxt hk s1 p3 ho
  have p4 : f.pc k = 4 := by omega
  obtain ⟨a, b, c, d⟩ := do_load hac (lkA h2 k) (show 2 + 2 * k < f.ps.ws.length by omega)
  have hT : tellS f.ps k 1 (L.lk k) = wK f.ps k := a
  have e1 : f.acq L k k = { f with pc := upd f.pc k (if wK f.ps k = 0 then 0 else 4), ps := doS f.ps k 1 (L.lk k) 0 0 } := by unfold FL.acq; rw [if_neg p0, if_neg p1, if_neg p2, if_neg p3, hT]
  have e2 : f.acqD L k k = if wK f.ps k = 0 then ⟨1, false, false, false⟩ else Dd.no := by unfold FL.acqD; rw [if_neg p0, if_neg p1, if_neg p2, if_neg p3, hT]
  obtain ⟨wt, wn, wk⟩ := ws_same b
  rcases h.cor.looks hk s1 p4 with ⟨rfl, r, rfl, hz⟩ | hz
  · rw [e1, e2, if_pos hz, if_pos hz, fin_some hk (by rw [s1]; rfl : behindI (f.s.st k) 1 = some 2)]
    have hnr : k ∉ r := (List.nodup_cons.1 h.cor.nodup).1
    refine ⟨some k, r, 2, 0, h.put rfl (by show (doS _ _ _ _ _ _).ws.length = _; rw [b]) c ?_, .grant rfl k rfl rfl hnr, fun _ => rfl, rfl, fun _ => rfl, Nat.le_of_eq d, .inl (by rw [s1, p4]; decide), fun _ => ⟨s1, rfl, rfl, false, rfl⟩, fun q => by omega, fun _ => .inr ⟨rfl, rfl⟩, fun q => by omega, fun q => by omega⟩
    show Cor _ (upd f.s.st k 2) (upd f.pc k 0) _ (wT (doS _ _ _ _ _ _)) (wN (doS _ _ _ _ _ _)) (wK (doS _ _ _ _ _ _)) (some k) r
    rw [wt, wn, wk]
    exact h.cor.grant
  · have hz0 : wK f.ps k ≠ 0 := by omega
    rw [e1, e2, if_neg hz0, if_neg hz0, fin_no]
    have ep : upd f.pc k 4 = f.pc := funext fun j => by rw [← p4]; exact (upd_self f.pc k j).symm
    refine ⟨g, W, 1, 4, h.put rfl (by show (doS _ _ _ _ _ _).ws.length = _; rw [b]) c ?_, .same rfl (by decide) (by decide) rfl, fun j => by rw [← s1]; exact upd_self _ _ j, rfl, fun _ => rfl, Nat.le_of_eq d, .inr (.inr ⟨s1.symm, p4.symm, b, .inr (.inr (.inl ⟨s1, p4, hz0⟩))⟩), fun q => absurd q (by decide), fun _ => rfl, fun _ => .inl ⟨rfl, by decide⟩, fun q => by omega, fun q => by omega⟩
    show Cor _ _ (upd f.pc k 4) _ (wT (doS _ _ _ _ _ _)) (wN (doS _ _ _ _ _ _)) (wK (doS _ _ _ _ _ _)) g W
    rw [wt, wn, wk, ep]
    exact h.cor

theorem stp3 (h : OrdJ f g W) (h1 : L.a1 = 0) (h2 : L.a2 = 1) {k : Nat} (hk : k < f.s.n) (s3 : f.s.st k = 3) : ∃ g' W' x p, Stp f (f.step L k k) W k (f.did L k k) g' W' x p := by
  obtain ⟨ed, es⟩ := at_three (L := L) hk s3
  rw [ed, es]
  obtain rfl := h.cor.held hk (.inr (.inl s3))
  have hl := h.len
  have hac : k < f.ps.ac.length := by rw [h.ac]; exact hk
  have prg := h.cor.prg k
  have pc3 := h.cor.pc3 k hk s3
  -- it loads its next
  have look : ∀ (p0 : Int), f.pc k = p0 → (p0 = 0 ∨ p0 = 2) → (wN f.ps k = 0 → p0 = 2 → W ≠ []) → ∀ f', f' = { f with pc := upd f.pc k (if wN f.ps k = 0 then (if p0 = 0 then 1 else 2) else 3), oth := upd f.oth k (wN f.ps k), ps := doS f.ps k 1 (L.nx k) 0 0 } →
      ∃ g' W' x p, Stp f f' W k Dd.no g' W' x p := by
    intro p0 hp hp0 hne f' hf'
    obtain ⟨a, b, c, d⟩ := do_load hac (nxA h2 k) (show 1 + 2 * k < f.ps.ws.length by omega)
    obtain ⟨wt, wn, wk⟩ := ws_same b
    by_cases hz : wN f.ps k = 0
    · rw [if_pos hz] at hf'
      rcases hp0 with rfl | rfl
      · rw [if_pos rfl] at hf'
        subst hf'
        refine ⟨some k, W, 3, 1, h.put rfl (by show (doS _ _ _ _ _ _).ws.length = _; rw [b]) c ?_, .same rfl (by decide) (by decide) rfl, fun j => by rw [← s3]; exact upd_self _ _ j, rfl, fun _ => rfl, Nat.le_of_eq d, .inl (by rw [s3, hp]; decide), fun q => absurd q (by decide), fun _ => rfl, fun q => by omega, fun _ => .inl rfl, fun q => by omega⟩
        show Cor _ _ (upd f.pc k 1) (upd f.oth k _) (wT (doS _ _ _ _ _ _)) (wN (doS _ _ _ _ _ _)) (wK (doS _ _ _ _ _ _)) (some k) W
        rw [wt, wn, wk]
        exact h.cor.unl s3 (by omega) (fun q => by omega) (fun q => by omega)
      · rw [if_neg (by decide)] at hf'
        subst hf'
        refine ⟨some k, W, 3, 2, h.put rfl (by show (doS _ _ _ _ _ _).ws.length = _; rw [b]) c ?_, .same rfl (by decide) (by decide) rfl, fun j => by rw [← s3]; exact upd_self _ _ j, rfl, fun _ => rfl, Nat.le_of_eq d, .inr (.inr ⟨s3.symm, hp.symm, b, .inr (.inr (.inr ⟨s3, hp, hz⟩))⟩), fun q => absurd q (by decide), fun _ => rfl, fun q => by omega, fun _ => .inl rfl, fun q => by omega⟩
        show Cor _ _ (upd f.pc k 2) (upd f.oth k _) (wT (doS _ _ _ _ _ _)) (wN (doS _ _ _ _ _ _)) (wK (doS _ _ _ _ _ _)) (some k) W
        rw [wt, wn, wk]
        exact h.cor.unl s3 (by omega) (fun _ => hne hz rfl) (fun q => by omega)
    · rw [if_neg hz] at hf'
      subst hf'
      refine ⟨some k, W, 3, 3, h.put rfl (by show (doS _ _ _ _ _ _).ws.length = _; rw [b]) c ?_, .same rfl (by decide) (by decide) rfl, fun j => by rw [← s3]; exact upd_self _ _ j, rfl, fun _ => rfl, Nat.le_of_eq d, .inl (by rw [s3, hp]; rcases hp0 with rfl | rfl <;> decide), fun q => absurd q (by decide), fun _ => rfl, fun q => by omega, fun _ => .inl rfl, fun q => by omega⟩
      show Cor _ _ (upd f.pc k 3) (upd f.oth k _) (wT (doS _ _ _ _ _ _)) (wN (doS _ _ _ _ _ _)) (wK (doS _ _ _ _ _ _)) (some k) W
      rw [wt, wn, wk]
      refine h.cor.unl s3 (by omega) (fun q => by omega) fun _ => ?_
      rcases h.cor.nextOf with ⟨_, q⟩ | ⟨j, r, q1, q2⟩
      · exact absurd q hz
      · rcases q2 with q2 | q2
        · exact absurd q2.1 hz
        · exact ⟨j, r, q1, q2.1, q2.2.1⟩
  have tellN : tellS f.ps k 1 (L.nx k) = wN f.ps k := (do_load hac (nxA h2 k) (show 1 + 2 * k < f.ps.ws.length by omega)).1
  by_cases p0 : f.pc k = 0
  · have e2 : f.relD L k k = Dd.no := by unfold FL.relD; rw [if_pos p0]
    rw [e2, fin_no]
    refine look 0 p0 (.inl rfl) (fun _ q => by omega) _ ?_
    unfold FL.rel
    rw [if_pos p0, tellN, if_pos rfl]
  by_cases p1 : f.pc k = 1
  · obtain ⟨a, b, c, d⟩ := do_cas (old := (k : Int) + 1) (v := 0) hac (show L.a1 = ((0 : Nat) : Int) from h1) (show 0 < f.ps.ws.length by omega)
    have e1 : f.rel L k k = { f with pc := upd f.pc k (if casT f.ps k L.a1 ((k : Int) + 1) = true then 0 else 2), ps := doS f.ps k 4 L.a1 ((k : Int) + 1) 0 } := by unfold FL.rel; rw [if_neg p0, if_pos p1]
    have e2 : f.relD L k k = if casT f.ps k L.a1 ((k : Int) + 1) = true then ⟨3, false, false, false⟩ else Dd.no := by unfold FL.relD; rw [if_neg p0, if_pos p1]
    cases W with
    | nil =>
      have hT : f.ps.ws.getD 0 0 = (k : Int) + 1 := h.cor.tl
      have hc := a.2 hT
      rw [if_pos hT] at b
      obtain ⟨wt, wn, wk⟩ := ws_tail (by omega) b
      rw [e1, e2, if_pos hc, if_pos hc, fin_some hk (by rw [s3]; rfl : behindI (f.s.st k) 3 = some 0)]
      refine ⟨none, [], 0, 0, h.put rfl (by show (doS _ _ _ _ _ _).ws.length = _; rw [b, List.length_set]) c ?_, .same rfl (by decide) (by decide) rfl, fun _ => rfl, rfl, fun _ => rfl, Nat.le_of_eq d, .inl (by rw [s3, p1]; decide), fun q => absurd q (by decide), fun q => by omega, fun q => by omega, fun _ => .inr rfl, fun q => by omega⟩
      show Cor _ (upd f.s.st k 0) (upd f.pc k 0) _ (wT (doS _ _ _ _ _ _)) (wN (doS _ _ _ _ _ _)) (wK (doS _ _ _ _ _ _)) none []
      rw [wt, wn, wk]
      exact h.cor.freeE
    | cons j r =>
      have hT : f.ps.ws.getD 0 0 ≠ (k : Int) + 1 := by
        have ht := h.cor.tl
        have ht : f.ps.ws.getD 0 0 = lastM ((k : Int) + 1) (j :: r) := ht
        obtain ⟨i, hi, hj⟩ := lastM_pos ((k : Int) + 1) j r
        rw [ht, hj]
        intro q
        have : i = k := by omega
        subst this
        exact h.cor.notW hi
      have hc : ¬ casT f.ps k L.a1 ((k : Int) + 1) = true := fun q => hT (a.1 q)
      rw [if_neg hT] at b
      obtain ⟨wt, wn, wk⟩ := ws_same b
      rw [e1, e2, if_neg hc, if_neg hc, fin_no]
      have eo : upd f.oth k (f.oth k) = f.oth := funext fun j => (upd_self f.oth k j).symm
      refine ⟨some k, j :: r, 3, 2, h.put rfl (by show (doS _ _ _ _ _ _).ws.length = _; rw [b]) c ?_, .same rfl (by decide) (by decide) rfl, fun j => by rw [← s3]; exact upd_self _ _ j, rfl, fun _ => rfl, Nat.le_of_eq d, .inl (by rw [s3, p1]; decide), fun q => absurd q (by decide), fun _ => rfl, fun q => by omega, fun _ => .inl rfl, fun q => by omega⟩
      show Cor _ _ (upd f.pc k 2) f.oth (wT (doS _ _ _ _ _ _)) (wN (doS _ _ _ _ _ _)) (wK (doS _ _ _ _ _ _)) (some k) (j :: r)
      rw [wt, wn, wk, ← eo]
      exact h.cor.unl s3 (by omega) (fun _ => by simp) (fun q => by omega)
  by_cases p2 : f.pc k = 2
  · have e2 : f.relD L k k = Dd.no := by unfold FL.relD; rw [if_neg p0, if_neg p1, if_pos p2]
    rw [e2, fin_no]
    refine look 2 p2 (.inr rfl) (fun _ _ => h.cor.un2 k rfl s3 p2) _ ?_
    unfold FL.rel
    rw [if_neg p0, if_neg p1, if_pos p2, tellN, if_neg (by decide : ¬ (2 : Int) = 0)]
  have p3 : f.pc k = 3 := by omega
  obtain ⟨j, r, rfl, ho, pj⟩ := h.cor.un3 k rfl s3 p3
  have hj : j < f.s.n := h.cor.lt j (by simp)
  have hi1 : f.oth k - 1 = (j : Int) := by omega
  obtain ⟨b, c, d⟩ := do_store (v := 0) hac (show L.lk (f.oth k - 1) = ((2 + 2 * j : Nat) : Int) by rw [hi1]; exact lkA h2 j) (show 2 + 2 * j < f.ps.ws.length by omega)
  have e1 : f.rel L k k = { f with pc := upd f.pc k 0, ps := doS f.ps k 2 (L.lk (f.oth k - 1)) 0 0 } := by unfold FL.rel; rw [if_neg p0, if_neg p1, if_neg p2]
  have e2 : f.relD L k k = ⟨3, false, false, false⟩ := by unfold FL.relD; rw [if_neg p0, if_neg p1, if_neg p2]
  obtain ⟨wt, wn, wk⟩ := ws_lock hl hj b
  rw [e1, e2, fin_some hk (by rw [s3]; rfl : behindI (f.s.st k) 3 = some 0)]
  refine ⟨none, j :: r, 0, 0, h.put rfl (by show (doS _ _ _ _ _ _).ws.length = _; rw [b, List.length_set]) c ?_, .same rfl (by decide) (by decide) rfl, fun _ => rfl, rfl, fun _ => rfl, Nat.le_of_eq d, .inl (by rw [s3, p3]; decide), fun q => absurd q (by decide), fun q => by omega, fun q => by omega, fun _ => .inr rfl, fun q => by omega⟩
  show Cor _ (upd f.s.st k 0) (upd f.pc k 0) _ (wT (doS _ _ _ _ _ _)) (wN (doS _ _ _ _ _ _)) (wK (doS _ _ _ _ _ _)) none (j :: r)
  rw [wt, wn, wk]
  exact h.cor.freeW pj

theorem stp4 (h : OrdJ f g W) (h1 : L.a1 = 0) (h2 : L.a2 = 1) {k : Nat} (hk : k < f.s.n) (s4 : f.s.st k = 4) : ∃ g' W' x p, Stp f (f.step L k k) W k (f.did L k k) g' W' x p := by
  obtain ⟨ed, es⟩ := at_four (L := L) hk s4
  rw [ed, es]
  have hl := h.len
  have hac : k < f.ps.ac.length := by rw [h.ac]; exact hk
  obtain ⟨a, b, c, d⟩ := do_load hac (nxA h2 k) (show 1 + 2 * k < f.ps.ws.length by omega)
  obtain ⟨wt, wn, wk⟩ := ws_same b
  have p0 := h.cor.pcI k hk (by omega) (by omega)
  obtain ⟨ev, hev, e2⟩ : ∃ ev, (ev = 4 ∨ ev = 5) ∧ f.askD L k k = ⟨ev, false, false, false⟩ := by
    unfold FL.askD
    split
    · exact ⟨4, .inl rfl, rfl⟩
    · exact ⟨5, .inr rfl, rfl⟩
  rw [e2, show f.s.fin k (⟨ev, false, false, false⟩ : Dd).ev = f.s.set k 2 0 from fin_some hk (by rw [s4]; rcases hev with rfl | rfl <;> rfl)]
  unfold FL.ask
  refine ⟨g, W, 2, f.pc k, h.put rfl (by show (doS _ _ _ _ _ _).ws.length = _; rw [b]) c ?_, .same rfl (by rcases hev with rfl | rfl <;> decide) (by rcases hev with rfl | rfl <;> decide) rfl, fun _ => rfl, rfl, fun j => upd_self _ _ j, Nat.le_of_eq d, .inr (.inl s4), fun q => by rcases hev with rfl | rfl <;> exact absurd q (by decide), fun q => by omega, fun q => by omega, fun q => by omega, fun q => by omega⟩
  show Cor _ (upd f.s.st k 2) _ _ (wT (doS _ _ _ _ _ _)) (wN (doS _ _ _ _ _ _)) (wK (doS _ _ _ _ _ _)) g W
  rw [wt, wn, wk]
  exact h.cor.turn hk (.inr s4) (.inl rfl)

theorem stp (h : OrdJ f g W) (h1 : L.a1 = 0) (h2 : L.a2 = 1) {k : Nat} (hk : k < f.s.n) : ∃ g' W' x p, Stp f (f.step L k k) W k (f.did L k k) g' W' x p := by
  by_cases s1 : f.s.st k = 1
  · exact h.stp1 h1 h2 hk s1
  by_cases s3 : f.s.st k = 3
  · exact h.stp3 h1 h2 hk s3
  by_cases s4 : f.s.st k = 4
  · exact h.stp4 h1 h2 hk s4
  obtain ⟨d1, d2⟩ := at_idle (L := L) hk s1 s3 s4
  rw [d1, d2]
  have hst : f.s.st k = 0 ∨ f.s.st k = 2 := by
    by_cases hm : k ∈ g.toList ++ W
    · rcases List.mem_append.1 hm with hm | hm
      · have := h.cor.stg k (by simpa using hm); omega
      · have := h.cor.stw k hm; omega
    · have := h.cor.sto k hk hm; omega
  exact ⟨g, W, f.s.st k, f.pc k, h, .same rfl (by decide) (by decide) rfl, upd_self _ _, rfl, upd_self _ _, Nat.le_succ _, .inr (.inr ⟨rfl, rfl, rfl, by omega⟩), fun q => absurd q (by decide), fun _ => rfl, fun q => absurd q s1, fun q => absurd q s3, fun q => ⟨q, rfl⟩⟩
theorem step (h : OrdJ f g W) (h1 : L.a1 = 0) (h2 : L.a2 = 1) (t : Int) :
    ∃ g' W', OrdJ (f.step L t t) g' W' ∧ (f.step L t t).ps.D.length ≤ f.ps.D.length + 1 ∧ StepQ W t (f.did L t t) W' := by
  by_cases ht : 0 ≤ t ∧ t < f.s.n
  · obtain ⟨k, rfl⟩ := Int.eq_ofNat_of_zero_le ht.1
    obtain ⟨g', W', x, p, hs⟩ := h.stp h1 h2 (show k < f.s.n by omega)
    exact ⟨g', W', hs.ord, hs.D, hs.q⟩
  · obtain ⟨d1, d2⟩ := at_none (L := L) ht
    rw [d1, d2]
    exact ⟨g, W, h, Nat.le_succ _, .same rfl (by decide) (by decide) rfl⟩
end OrdJ

/-! ### what holds of the lock and the law's queue -/
def OrdI (f : FL) (W : List Nat) : Prop := ∃ g, OrdJ f g W
namespace OrdI
variable {f : FL} {W : List Nat} {L : Lp}
theorem lock (h : OrdI f W) (t d : Int) : OrdI (f.lock t d) W := by obtain ⟨g, h⟩ := h; exact ⟨g, h.lock t d⟩
theorem unlock (h : OrdI f W) (t : Int) : OrdI (f.turn t 3) W := by obtain ⟨g, h⟩ := h; exact ⟨g, h.turn t 3 (.inl rfl)⟩
theorem probe (h : OrdI f W) (t : Int) : OrdI (f.probe t) W := by obtain ⟨g, h⟩ := h; exact ⟨g, h.probe t⟩
theorem step (h : OrdI f W) (h1 : L.a1 = 0) (h2 : L.a2 = 1) (t : Int) : ∃ W', OrdI (f.step L t t) W' ∧ (f.step L t t).ps.D.length ≤ f.ps.D.length + 1 ∧ OrdJ.StepQ W t (f.did L t t) W' := by
  obtain ⟨g, h⟩ := h
  obtain ⟨g', W', a, b, c⟩ := h.step h1 h2 t
  exact ⟨W', ⟨g', a⟩, b, c⟩
theorem n8 (h : OrdI f W) : f.s.n ≤ 8 := by obtain ⟨g, h⟩ := h; exact h.n8
theorem len (h : OrdI f W) : W.length ≤ 8 := by
  obtain ⟨g, h⟩ := h
  have h1 : (g.toList ++ W).length ≤ (List.range f.s.n).length := List.Nodup.length_le_of_subset h.cor.nodup fun k hk => List.mem_range.2 (h.cor.lt k hk)
  have := h.n8
  rw [List.length_append, List.length_range] at h1
  omega
theorem one (h : OrdI f W) {j k : Nat} (hj : j < f.s.n) (hk : k < f.s.n) (ej : f.s.st j = 2) (ek : f.s.st k = 2) : j = k := by
  obtain ⟨g, h⟩ := h
  have h1 := h.cor.held hj (.inl ej)
  have h2 := h.cor.held hk (.inl ek)
  rw [h1] at h2
  simpa using h2
theorem lenW (h : OrdI f W) : f.ps.ws.length ≤ 4096 := by
  obtain ⟨g, h⟩ := h
  have := h.n8
  rw [h.len]
  omega
end OrdI
end Go.Proofs.Ytpaihjlohcakjaa
