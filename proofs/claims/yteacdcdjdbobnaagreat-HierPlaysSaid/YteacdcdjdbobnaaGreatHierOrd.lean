/- What holds of a hierarchical CLH lock at all times, and what becomes of that at each step; no walk. -/
import Derived.Test.YteacdcdjdbobnaaGreatHierCor
namespace Go.Proofs.YteacdcdjdbobnaaGreat
set_option linter.unusedVariables false
set_option maxRecDepth 100000

/-! ### an access -/
theorem do_load {ps : PSta} {k i : Nat} {a : Int} (hk : k < ps.ac.length) (ha : a = ((i : Nat) : Int)) (hi : i < ps.ws.length) :
    tellS ps k 1 a = ps.ws.getD i 0 ∧ (doS ps k 1 a 0 0).ws = ps.ws ∧ (doS ps k 1 a 0 0).ac.length = ps.ac.length ∧ (doS ps k 1 a 0 0).D.length = ps.D.length + 1 := by
  subst ha
  have ho : okS ps k 1 (i : Int) = true := by simp [okS, okT]; omega
  refine ⟨?_, ?_, ?_, ?_⟩
  · unfold tellS; rw [ho]; simp [tellI, loadI]
  · unfold doS; rw [ho]; simp [doL]
  · unfold doS; rw [ho]; simp [touchS, bump_len]
  · unfold doS; rw [ho]; simp [touchS]
theorem do_store {ps : PSta} {k i : Nat} {a v : Int} (hk : k < ps.ac.length) (ha : a = ((i : Nat) : Int)) (hi : i < ps.ws.length) :
    (doS ps k 2 a 0 v).ws = ps.ws.set i v ∧ (doS ps k 2 a 0 v).ac.length = ps.ac.length ∧ (doS ps k 2 a 0 v).D.length = ps.D.length + 1 := by
  subst ha
  have ho : okS ps k 2 (i : Int) = true := by simp [okS, okT]; omega
  refine ⟨?_, ?_, ?_⟩
  · unfold doS; rw [ho]; simp [doL, storeL]
  · unfold doS; rw [ho]; simp [touchS, bump_len]
  · unfold doS; rw [ho]; simp [touchS]
theorem do_swap {ps : PSta} {k i : Nat} {a v : Int} (hk : k < ps.ac.length) (ha : a = ((i : Nat) : Int)) (hi : i < ps.ws.length) :
    tellS ps k 3 a = ps.ws.getD i 0 ∧ (doS ps k 3 a 0 v).ws = ps.ws.set i v ∧ (doS ps k 3 a 0 v).ac.length = ps.ac.length ∧ (doS ps k 3 a 0 v).D.length = ps.D.length + 1 := by
  subst ha
  have ho : okS ps k 3 (i : Int) = true := by simp [okS, okT]; omega
  refine ⟨?_, ?_, ?_, ?_⟩
  · unfold tellS; rw [ho]; simp [tellI, loadI]
  · unfold doS; rw [ho]; simp [doL, storeL]
  · unfold doS; rw [ho]; simp [touchS, bump_len]
  · unfold doS; rw [ho]; simp [touchS]
theorem do_cas {ps : PSta} {k i : Nat} {a old v : Int} (hk : k < ps.ac.length) (ha : a = ((i : Nat) : Int)) (hi : i < ps.ws.length) :
    (casT ps k a old = true ↔ ps.ws.getD i 0 = old) ∧ (doS ps k 4 a old v).ws = (if ps.ws.getD i 0 = old then ps.ws.set i v else ps.ws) ∧ (doS ps k 4 a old v).ac.length = ps.ac.length ∧ (doS ps k 4 a old v).D.length = ps.D.length + 1 := by
  subst ha
  have ho : okS ps k 4 (i : Int) = true := by simp [okS, okT]; omega
  have hb : casB ps.ws (i : Int) old = decide (ps.ws.getD i 0 = old) := by unfold casB; rw [has_at hi, load_at]; simp
  refine ⟨?_, ?_, ?_, ?_⟩
  · unfold casT; rw [hb, okT_at hk hi]; simp
  · unfold doS; rw [ho]
    show casL ps.ws (i : Int) old v = _
    unfold casL
    rw [hb]
    by_cases e : ps.ws.getD i 0 = old
    · rw [decide_eq_true e, if_pos rfl, if_pos e]; simp [storeL]
    · rw [decide_eq_false e, if_neg (by decide), if_neg e]
  · unfold doS; rw [ho]; simp [touchS, bump_len]
  · unfold doS; rw [ho]; simp [touchS]

theorem fin_none {s : SS} {k : Nat} {ev : Int} (h : behindI (s.st k) ev = none) : s.fin k ev = s := by
  unfold SS.fin endO
  split
  · rename_i y hy
    split at hy
    · rw [Int.toNat_natCast, h] at hy; cases hy
    · cases hy
  · rfl
theorem fin_some {s : SS} {k : Nat} {ev y : Int} (hk : k < s.n) (h : behindI (s.st k) ev = some y) : s.fin k ev = s.set k y 0 := by
  have e : endO s k ev = some y := by unfold endO; rw [if_pos (by omega), Int.toNat_natCast, h]
  unfold SS.fin
  rw [e, Int.toNat_natCast]
theorem fin_no (s : SS) (t : Nat) : s.fin t Dd.no.ev = s := fin_none (by
  unfold behindI
  rw [if_neg (fun q => absurd q.2 (by decide)), if_neg (fun q => q.2.elim (fun q => absurd q (by decide)) fun q => absurd q (by decide)), if_neg (fun q => absurd q.2 (by decide)), if_neg (fun q => q.2.elim (fun q => absurd q (by decide)) fun q => absurd q (by decide))])


/-! ### the words -/
def wT (ps : PSta) : Int := ps.ws.getD 0 0
def wK (ps : PSta) (c : Nat) : Int := if c < 8 then ps.ws.getD (c + 1) 0 else 0
def wX (ps : PSta) : Nat → Int
  | 0 => 0
  | i + 1 => ps.ws.getD (i + 9) 0
theorem getD_set_same {l : List Int} {i : Nat} (v : Int) (h : i < l.length) : (l.set i v).getD i 0 = v := by simp [h]
theorem getD_set_other {l : List Int} {i j : Nat} (v : Int) (h : i ≠ j) : (l.set i v).getD j 0 = l.getD j 0 := by
  rw [List.getD_eq_getElem?_getD, List.getElem?_set, if_neg h, ← List.getD_eq_getElem?_getD]
theorem ws_same {ps ps' : PSta} (h : ps'.ws = ps.ws) : wT ps' = wT ps ∧ wK ps' = wK ps ∧ wX ps' = wX ps := by
  refine ⟨by unfold wT; rw [h], funext fun i => by unfold wK; rw [h], funext fun i => by cases i <;> simp [wX, h]⟩
theorem ws_T {ps ps' : PSta} {v : Int} (hl : 0 < ps.ws.length) (h : ps'.ws = ps.ws.set 0 v) : wT ps' = v ∧ wK ps' = wK ps ∧ wX ps' = wX ps := by
  refine ⟨by unfold wT; rw [h]; exact getD_set_same v hl, funext fun c => ?_, funext fun i => ?_⟩
  · unfold wK; rw [h, getD_set_other _ (by omega)]
  · cases i with
    | zero => rfl
    | succ i => show ps'.ws.getD _ 0 = ps.ws.getD _ 0; rw [h]; exact getD_set_other _ (by omega)
theorem ws_K {ps ps' : PSta} {v : Int} {c : Nat} (hl : c + 1 < ps.ws.length) (h8 : c < 8) (h : ps'.ws = ps.ws.set (c + 1) v) : wT ps' = wT ps ∧ (wK ps' c = v ∧ ∀ j, j ≠ c → wK ps' j = wK ps j) ∧ wX ps' = wX ps := by
  refine ⟨by unfold wT; rw [h]; exact getD_set_other _ (by omega), ⟨by unfold wK; rw [if_pos h8, h]; exact getD_set_same v hl, fun j hj => by unfold wK; rw [h, getD_set_other _ (by omega)]⟩, funext fun i => ?_⟩
  cases i with
  | zero => rfl
  | succ i => show ps'.ws.getD _ 0 = ps.ws.getD _ 0; rw [h]; exact getD_set_other _ (by omega)
theorem ws_X {ps ps' : PSta} {v : Int} {i : Nat} (hl : i + 9 < ps.ws.length) (h : ps'.ws = ps.ws.set (i + 9) v) : wT ps' = wT ps ∧ wK ps' = wK ps ∧ wX ps' (i + 1) = v ∧ ∀ j, j ≠ i + 1 → wX ps' j = wX ps j := by
  refine ⟨by unfold wT; rw [h]; exact getD_set_other _ (by omega), funext fun c => ?_, ?_, fun j hj => ?_⟩
  · unfold wK
    by_cases q : c < 8
    · rw [if_pos q, if_pos q, h, getD_set_other _ (by omega)]
    · rw [if_neg q, if_neg q]
  · show ps'.ws.getD _ 0 = v; rw [h]; exact getD_set_same v hl
  · cases j with
    | zero => rfl
    | succ j => show ps'.ws.getD _ 0 = ps.ws.getD _ 0; rw [h]; exact getD_set_other _ (by omega)
theorem w_parts {c w s : Int} (hw : w = 0 ∨ w = 1) (hs : s = 0 ∨ s = 1) : wCl (wd c w s) = c ∧ wWt (wd c w s) = w ∧ wSp (wd c w s) = s := by
  unfold wCl wWt wSp wd; omega

/-! ### what a context does -/
def FL.ro (f : FL) (t : Nat) : Ro :=
  if f.s.st t = 1 then (if f.pc t = 0 then .idle else if f.pc t = 1 then .fresh else if f.pc t = 2 then .loc else if f.pc t = 3 then .mas else if f.pc t = 4 then .bat (f.of t).toNat else if f.pc t ≤ 6 then .spl (f.pc t).toNat (f.of t).toNat else .glo)
  else if f.s.st t = 2 then .hold 0
  else if f.s.st t = 3 then .hold (f.pc t).toNat
  else .idle
section
variable {f : FL} {t : Nat}
theorem ro0 (h : f.s.st t = 1) (p : f.pc t = 0) : f.ro t = .idle := by unfold FL.ro; rw [if_pos h, if_pos p]
theorem ro1 (h : f.s.st t = 1) (p : f.pc t = 1) : f.ro t = .fresh := by unfold FL.ro; rw [if_pos h, if_neg (by omega), if_pos p]
theorem ro2 (h : f.s.st t = 1) (p : f.pc t = 2) : f.ro t = .loc := by unfold FL.ro; rw [if_pos h, if_neg (by omega), if_neg (by omega), if_pos p]
theorem ro3 (h : f.s.st t = 1) (p : f.pc t = 3) : f.ro t = .mas := by unfold FL.ro; rw [if_pos h, if_neg (by omega), if_neg (by omega), if_neg (by omega), if_pos p]
theorem ro4 {o : Nat} (h : f.s.st t = 1) (p : f.pc t = 4) (ho : f.of t = (o : Int)) : f.ro t = .bat o := by unfold FL.ro; rw [if_pos h, if_neg (by omega), if_neg (by omega), if_neg (by omega), if_neg (by omega), if_pos p, ho]; rfl
theorem ro5 {o p : Nat} (h : f.s.st t = 1) (e : f.pc t = (p : Int)) (hp : p = 5 ∨ p = 6) (ho : f.of t = (o : Int)) : f.ro t = .spl p o := by unfold FL.ro; rw [if_pos h, if_neg (by omega), if_neg (by omega), if_neg (by omega), if_neg (by omega), if_neg (by omega), if_pos (by omega), ho, e]; rfl
theorem ro7 (h : f.s.st t = 1) (p : f.pc t = 7) : f.ro t = .glo := by unfold FL.ro; rw [if_pos h, if_neg (by omega), if_neg (by omega), if_neg (by omega), if_neg (by omega), if_neg (by omega), if_neg (by omega)]
theorem roH (h : f.s.st t = 2) : f.ro t = .hold 0 := by unfold FL.ro; rw [if_neg (by omega), if_pos h]
theorem roU {p : Nat} (h : f.s.st t = 3) (e : f.pc t = (p : Int)) : f.ro t = .hold p := by unfold FL.ro; rw [if_neg (by omega), if_neg (by omega), if_pos h, e]; rfl
theorem roI (h : f.s.st t = 0) : f.ro t = .idle := by unfold FL.ro; rw [if_neg (by omega), if_neg (by omega), if_neg (by omega)]
end
/-- who is still to be granted -/
def rest (g : Option Nat) (Q : List Nat) : List Nat := match g with
  | none => Q
  | some _ => Q.tail
def isL : Ro → Bool
  | .spl _ _ => true
  | .glo => true
  | _ => false
/-- those who lead, in their order -/
def row (ro : Nat → Ro) (g : Option Nat) (Q : List Nat) : List Nat := (rest g Q).filter fun t => isL (ro t)
/-- a cluster's queue, as it is granted -/
def que (cl : Nat → Nat) (g : Option Nat) (Q : List Nat) (W : Nat → List Nat) (c : Nat) : List Nat := (rest g Q).filter (fun t => decide (cl t = c)) ++ W c
def FL.cN (f : FL) (t : Nat) : Nat := (f.cl t).toNat
def FL.nN (f : FL) (t : Nat) : Nat := (f.nd t).toNat
def FL.aN (f : FL) (t : Nat) : Nat := (f.ahd t).toNat
structure OrdJ (f : FL) (g : Option Nat) (Q : List Nat) (W : Nat → List Nat) : Prop where
  n8 : f.s.n ≤ 8
  np : f.s.probed = false
  len : f.ps.ws.length = f.s.n + 10
  ac : f.ps.ac.length = f.s.n
  cor : ∃ P F, Cor f.s.n f.cN f.nN f.aN f.ro f.wv (wT f.ps) (wK f.ps) (wX f.ps) P F g Q W
  cls : ∀ t, t < f.s.n → 0 ≤ f.cl t ∧ f.cl t ≤ 7
  prg : ∀ t, 0 ≤ f.pc t ∧ f.pc t ≤ 7
  sts : ∀ t, t < f.s.n → 0 ≤ f.s.st t ∧ f.s.st t ≤ 3
  pc3 : ∀ t, t < f.s.n → f.s.st t = 3 → f.pc t ≤ 1
  pcI : ∀ t, t < f.s.n → f.s.st t ≠ 1 → f.s.st t ≠ 3 → f.pc t = 0
  nds : ∀ t, 0 ≤ f.nd t
  ahs : ∀ t, 0 ≤ f.ahd t
  ofs : ∀ t, 0 ≤ f.of t
/-! ### sums -/
def sumN (w : Nat → Nat) : Nat → Nat
  | 0 => 0
  | n + 1 => sumN w n + w n
theorem sumN_same {w w' : Nat → Nat} {n : Nat} (h : ∀ k, k < n → w' k = w k) : sumN w' n = sumN w n := by
  induction n with
  | zero => rfl
  | succ n ih => show sumN w' n + w' n = sumN w n + w n; rw [ih fun k hk => h k (by omega), h n (by omega)]
theorem sumN_upd {w w' : Nat → Nat} {n k : Nat} (hk : k < n) (h : ∀ j, j ≠ k → w' j = w j) : sumN w' n + w k = sumN w n + w' k := by
  induction n with
  | zero => omega
  | succ n ih =>
    show sumN w' n + w' n + w k = sumN w n + w n + w' k
    by_cases e : k = n
    · subst e
      rw [sumN_same fun j hj => h j (by omega)]
      omega
    · have := ih (by omega)
      have := h n (fun x => e x.symm)
      omega
theorem sumN_const (c n : Nat) : sumN (fun _ => c) n = c * n := by
  induction n with
  | zero => rfl
  | succ n ih => show sumN _ n + c = _; rw [ih, Nat.mul_succ]
/-- how far one has come -/
def phs (x p : Int) : Nat := if x = 1 then (12 - p).toNat else if x = 2 then 4 else if x = 3 then (3 - p).toNat else 0
/-- a step: what comes of the clusters' queues -/
inductive OrdJ.StepC (q : Nat → List Nat) (c k : Nat) (d : Dd) (q' : Nat → List Nat) : Prop where
  | same (h0 : d.enq = false) (h1 : d.ev ≠ 1) (e : ∀ j, q' j = q j) : StepC q c k d q'
  | enq (hd : d = ⟨0, true, false, false⟩) (e0 : q' c = q c ++ [k]) (e : ∀ j, j ≠ c → q' j = q j) : StepC q c k d q'
  | grant (hd : ∃ b, d = ⟨1, false, false, b⟩) (e0 : q c = k :: q' c) (e : ∀ j, j ≠ c → q' j = q j) : StepC q c k d q'
/-- .. and of those who lead -/
inductive OrdJ.StepQ (W : List Nat) (k : Nat) (d : Dd) (W' : List Nat) : Prop where
  | same (h0 : d.arr = false) (h1 : d.lead = false) (e : W' = W) : StepQ W k d W'
  | arr (hd : d = ⟨0, false, true, false⟩) (e : W' = W ++ [k]) : StepQ W k d W'
  | lead (hd : d = ⟨1, false, false, true⟩) (e : W = k :: W') : StepQ W k d W'
/-- nothing to do, till another one comes on -/
def Halt (f : FL) (k : Nat) : Prop := f.s.st k = 0 ∨ f.s.st k = 2 ∨ (f.s.st k = 1 ∧ f.pc k = 2 ∧ (wCl (wX f.ps (f.aN k)) = f.cl k ∧ wSp (wX f.ps (f.aN k)) = 0) ∧ wWt (wX f.ps (f.aN k)) = 1) ∨ (f.s.st k = 1 ∧ f.pc k = 7 ∧ wWt (wX f.ps (f.aN k)) = 1)
/-- a step of k leaves f' and tells d: k does y -/
structure Stp (f f' : FL) (g : Option Nat) (Q : List Nat) (W : Nat → List Nat) (k : Nat) (d : Dd) (g' : Option Nat) (Q' : List Nat) (W' : Nat → List Nat) (y : Int) : Prop where
  ord : OrdJ f' g' Q' W'
  q : OrdJ.StepC (que f.cN g Q W) (f.cN k) k d (que f.cN g' Q' W')
  r : OrdJ.StepQ (row f.ro g Q) k d (row f'.ro g' Q')
  st : ∀ j, f'.s.st j = upd f.s.st k y j
  n : f'.s.n = f.s.n
  cl : f'.cl = f.cl
  oth : ∀ j, j ≠ k → f'.pc j = f.pc j ∧ f'.ahd j = f.ahd j
  D : f'.ps.D.length ≤ f.ps.D.length + 1
  on : phs y (f'.pc k) + 1 ≤ phs (f.s.st k) (f.pc k) ∨ (Halt f k ∧ f'.s = f.s ∧ f'.pc k = f.pc k ∧ f'.ahd k = f.ahd k ∧ f'.ps.ws = f.ps.ws)
  ev : d.ev = 1 → f.s.st k = 1 ∧ y = 2 ∧ ∃ b, d = ⟨1, false, false, b⟩
  ev2 : d.ev ≠ 1 → y ≠ 2 ∨ f.s.st k = 2
namespace OrdJ
variable {f : FL} {g : Option Nat} {Q : List Nat} {W : Nat → List Nat} {L : Lp}
theorem ro_other {f f' : FL} {k : Nat} {y : Int} (st : ∀ j, f'.s.st j = upd f.s.st k y j) (hp : ∀ j, j ≠ k → f'.pc j = f.pc j) (ho : ∀ j, j ≠ k → f'.of j = f.of j) : ∀ u, u ≠ k → f'.ro u = f.ro u := fun u hu => by
  unfold FL.ro
  rw [st u, upd_other _ _ hu, hp u hu, ho u hu]
/-- all of it anew -/
theorem put (h : OrdJ f g Q W) {f' : FL} {g' : Option Nat} {Q' : List Nat} {W' : Nat → List Nat} {k : Nat} {y : Int} (hn : f'.s.n = f.s.n) (hb : f'.s.probed = f.s.probed) (he : f'.cl = f.cl) (hl : f'.ps.ws.length = f.ps.ws.length) (ha : f'.ps.ac.length = f.ps.ac.length)
    (st : ∀ j, f'.s.st j = upd f.s.st k y j) (ho : ∀ j, j ≠ k → f'.pc j = f.pc j ∧ f'.nd j = f.nd j ∧ f'.ahd j = f.ahd j ∧ f'.of j = f.of j)
    (k1 : 0 ≤ f'.pc k ∧ f'.pc k ≤ 7) (k2 : 0 ≤ y ∧ y ≤ 3) (k3 : y = 3 → f'.pc k ≤ 1) (k4 : y ≠ 1 → y ≠ 3 → f'.pc k = 0) (k5 : 0 ≤ f'.nd k ∧ 0 ≤ f'.ahd k ∧ 0 ≤ f'.of k)
    (hc : ∃ P F, Cor f.s.n f.cN f'.nN f'.aN f'.ro f'.wv (wT f'.ps) (wK f'.ps) (wX f'.ps) P F g' Q' W') : OrdJ f' g' Q' W' := by
  have hcN : f'.cN = f.cN := by unfold FL.cN; rw [he]
  refine ⟨by rw [hn]; exact h.n8, by rw [hb]; exact h.np, by rw [hl, hn]; exact h.len, by rw [ha, hn]; exact h.ac, by rw [hn, hcN]; exact hc, fun t ht => by rw [he]; exact h.cls t (by omega), fun t => ?_, fun t ht => ?_, fun t ht hs => ?_, fun t ht h1 h3 => ?_, fun t => ?_, fun t => ?_, fun t => ?_⟩
  · by_cases q : t = k
    · subst q; exact k1
    · rw [(ho t q).1]; exact h.prg t
  · rw [st t]
    by_cases q : t = k
    · subst q; rw [upd_same]; exact k2
    · rw [upd_other _ _ q]; exact h.sts t (by omega)
  · rw [st t] at hs
    by_cases q : t = k
    · subst q; rw [upd_same] at hs; exact k3 hs
    · rw [upd_other _ _ q] at hs; rw [(ho t q).1]; exact h.pc3 t (by omega) hs
  · rw [st t] at h1 h3
    by_cases q : t = k
    · subst q; rw [upd_same] at h1 h3; exact k4 h1 h3
    · rw [upd_other _ _ q] at h1 h3; rw [(ho t q).1]; exact h.pcI t (by omega) h1 h3
  · by_cases q : t = k
    · subst q; exact k5.1
    · rw [(ho t q).2.1]; exact h.nds t
  · by_cases q : t = k
    · subst q; exact k5.2.1
    · rw [(ho t q).2.2.1]; exact h.ahs t
  · by_cases q : t = k
    · subst q; exact k5.2.2
    · rw [(ho t q).2.2.2]; exact h.ofs t
theorem cor_same {n : Nat} {cl nd A : Nat → Nat} {ro ro' : Nat → Ro} {V : Nat → Int} {T : Int} {K X : Nat → Int} {P : Nat → Nat} {F : Nat} (h : Cor n cl nd A ro V T K X P F g Q W) (e : ∀ u, ro' u = ro u) : Cor n cl nd A ro' V T K X P F g Q W := by
  rw [show ro' = ro from funext e]; exact h
theorem ro_all {f f' : FL} {k : Nat} (h0 : f'.ro k = f.ro k) (h : ∀ u, u ≠ k → f'.ro u = f.ro u) : ∀ u, f'.ro u = f.ro u := fun u => by
  by_cases q : u = k
  · rw [q]; exact h0
  · exact h u q
theorem lock (h : OrdJ f g Q W) (t d : Int) : OrdJ (f.lock t d) g Q W := by
  unfold FL.lock SS.lock
  split
  · rename_i he
    unfold lockE at he
    split at he
    · rename_i hc
      split at he
      · rename_i hs
        have hk : t.toNat < f.s.n := by omega
        have p0 := h.pcI _ hk (by omega) (by omega)
        obtain ⟨P, F, c⟩ := h.cor
        exact h.put (k := t.toNat) (y := 1) rfl rfl rfl rfl rfl (fun _ => rfl) (fun _ _ => ⟨rfl, rfl, rfl, rfl⟩) (h.prg _) (by omega) (by omega) (fun q => absurd rfl q) ⟨h.nds _, h.ahs _, h.ofs _⟩ ⟨P, F, cor_same c (ro_all (f' := { f with s := f.s.set t.toNat 1 d }) (k := t.toNat) ((ro0 (f := { f with s := f.s.set t.toNat 1 d }) (upd_same _ _ _) p0).trans (roI hs).symm) (ro_other (y := 1) (fun _ => rfl) (fun _ _ => rfl) fun _ _ => rfl))⟩
      · omega
    · omega
  · exact h
theorem turn (h : OrdJ f g Q W) (t : Int) : OrdJ (f.turn t 3) g Q W := by
  unfold FL.turn SS.turn
  split
  · rename_i he
    unfold turnE at he
    split at he
    · rename_i hc
      split at he
      · omega
      · split at he
        · rename_i hs
          have hk : t.toNat < f.s.n := by omega
          have p0 := h.pcI _ hk (by omega) (by omega)
          obtain ⟨P, F, c⟩ := h.cor
          exact h.put (k := t.toNat) (y := 3) rfl rfl rfl rfl rfl (fun _ => rfl) (fun _ _ => ⟨rfl, rfl, rfl, rfl⟩) (h.prg _) (by omega) (fun _ => by show f.pc _ ≤ 1; omega) (fun _ q => absurd rfl q) ⟨h.nds _, h.ahs _, h.ofs _⟩ ⟨P, F, cor_same c (ro_all (f' := { f with s := f.s.set t.toNat 3 (f.s.dl t.toNat) }) (k := t.toNat) ((roU (f := { f with s := f.s.set t.toNat 3 (f.s.dl t.toNat) }) (p := 0) (upd_same _ _ _) p0).trans (roH hs).symm) (ro_other (y := 3) (fun _ => rfl) (fun _ _ => rfl) fun _ _ => rfl))⟩
        · omega
    · omega
  · exact h
theorem probe (h : OrdJ f g Q W) (t : Int) : OrdJ (f.probe t) g Q W := by
  unfold FL.probe SS.probe
  rw [if_neg (by rw [h.np]; decide)]
  exact h
theorem at_none {t : Int} (hk : ¬ ((0 : Int) ≤ t ∧ t < f.s.n)) : f.did L t t = Dd.no ∧ f.step L t t = f := by
  have e : f.did L t t = Dd.no := by unfold FL.did; rw [if_neg hk]
  have em : f.mid L t t = f := by unfold FL.mid; rw [if_neg hk]
  refine ⟨e, ?_⟩
  have e0 : f.s.fin t Dd.no.ev = f.s := by
    have e0 : endO f.s t Dd.no.ev = none := by unfold endO; rw [if_neg hk]
    unfold SS.fin
    rw [e0]
  unfold FL.step
  rw [e, em, e0]
theorem at_idle {k : Nat} (hk : k < f.s.n) (s1 : f.s.st k ≠ 1) (s3 : f.s.st k ≠ 3) : f.did L k k = Dd.no ∧ f.step L k k = f := by
  have ht : (0 : Int) ≤ (k : Int) ∧ (k : Int) < f.s.n := by omega
  have e : f.did L k k = Dd.no := by unfold FL.did; rw [if_pos ht, Int.toNat_natCast, if_neg s1, if_neg s3]
  have em : f.mid L k k = f := by unfold FL.mid; rw [if_pos ht, Int.toNat_natCast, if_neg s1, if_neg s3]
  refine ⟨e, ?_⟩
  unfold FL.step
  rw [e, em, fin_no]
theorem at_one {k : Nat} (hk : k < f.s.n) (s1 : f.s.st k = 1) : f.did L k k = f.acqD L k k ∧ f.step L k k = { f.acq L k k with s := f.s.fin k (f.acqD L k k).ev } := by
  have ht : (0 : Int) ≤ (k : Int) ∧ (k : Int) < f.s.n := by omega
  have e : f.did L k k = f.acqD L k k := by unfold FL.did; rw [if_pos ht, Int.toNat_natCast, if_pos s1]
  have em : f.mid L k k = f.acq L k k := by unfold FL.mid; rw [if_pos ht, Int.toNat_natCast, if_pos s1]
  refine ⟨e, ?_⟩
  unfold FL.step
  rw [e, em]
theorem at_three {k : Nat} (hk : k < f.s.n) (s3 : f.s.st k = 3) : f.did L k k = f.relD L k k ∧ f.step L k k = { f.rel L k k with s := f.s.fin k (f.relD L k k).ev } := by
  have ht : (0 : Int) ≤ (k : Int) ∧ (k : Int) < f.s.n := by omega
  have e : f.did L k k = f.relD L k k := by unfold FL.did; rw [if_pos ht, Int.toNat_natCast, if_neg (by omega), if_pos s3]
  have em : f.mid L k k = f.rel L k k := by unfold FL.mid; rw [if_pos ht, Int.toNat_natCast, if_neg (by omega), if_pos s3]
  refine ⟨e, ?_⟩
  unfold FL.step
  rw [e, em]
theorem upd_self {α : Type} (f : Nat → α) (k : Nat) : ∀ j, f j = upd f k (f k) j := fun j => by
  unfold upd; split
  · rename_i e; rw [e]
  · rfl
/-- a step, told -/
theorem stpM (h : OrdJ f g Q W) {f' : FL} {k : Nat} {d : Dd} {g' : Option Nat} {Q' : List Nat} {W' : Nat → List Nat} {y : Int} (hs : (f'.s = f.s ∧ y = f.s.st k) ∨ f'.s = f.s.set k y 0) (he : f'.cl = f.cl) (hl : f'.ps.ws.length = f.ps.ws.length) (ha : f'.ps.ac.length = f.ps.ac.length) (hD : f'.ps.D.length = f.ps.D.length + 1)
    (ho : ∀ j, j ≠ k → f'.pc j = f.pc j ∧ f'.nd j = f.nd j ∧ f'.ahd j = f.ahd j ∧ f'.of j = f.of j)
    (k1 : 0 ≤ f'.pc k ∧ f'.pc k ≤ 7) (k2 : 0 ≤ y ∧ y ≤ 3) (k3 : y = 3 → f'.pc k ≤ 1) (k4 : y ≠ 1 → y ≠ 3 → f'.pc k = 0) (k5 : 0 ≤ f'.nd k ∧ 0 ≤ f'.ahd k ∧ 0 ≤ f'.of k)
    (hc : f'.s.st k = y → (∀ u, u ≠ k → f'.ro u = f.ro u) → (∃ P F, Cor f.s.n f.cN f'.nN f'.aN f'.ro f'.wv (wT f'.ps) (wK f'.ps) (wX f'.ps) P F g' Q' W') ∧ StepC (que f.cN g Q W) (f.cN k) k d (que f.cN g' Q' W') ∧ StepQ (row f.ro g Q) k d (row f'.ro g' Q'))
    (on : phs y (f'.pc k) + 1 ≤ phs (f.s.st k) (f.pc k) ∨ (Halt f k ∧ f'.s = f.s ∧ f'.pc k = f.pc k ∧ f'.ahd k = f.ahd k ∧ f'.ps.ws = f.ps.ws))
    (ev : d.ev = 1 → f.s.st k = 1 ∧ y = 2 ∧ ∃ b, d = ⟨1, false, false, b⟩) (ev2 : d.ev ≠ 1 → y ≠ 2 ∨ f.s.st k = 2) : Stp f f' g Q W k d g' Q' W' y := by
  have st : ∀ j, f'.s.st j = upd f.s.st k y j := fun j => by
    rcases hs with ⟨e, e'⟩ | e
    · rw [e, e']; exact upd_self _ _ j
    · rw [e]; rfl
  have hn : f'.s.n = f.s.n := by rcases hs with ⟨e, _⟩ | e <;> rw [e]; rfl
  have hb : f'.s.probed = f.s.probed := by rcases hs with ⟨e, _⟩ | e <;> rw [e]; rfl
  have hro := ro_other st (fun j e => (ho j e).1) (fun j e => (ho j e).2.2.2)
  have hk' : f'.s.st k = y := (st k).trans (upd_same _ _ _)
  obtain ⟨c1, c2, c3⟩ := hc hk' hro
  exact ⟨h.put hn hb he hl ha st ho k1 k2 k3 k4 k5 c1, c2, c3, st, hn, he, fun j e => ⟨(ho j e).1, (ho j e).2.2.1⟩, Nat.le_of_eq hD, on, ev, ev2⟩
theorem cAt (h2 : L.a2 = 1) (c : Nat) : L.cA (c : Int) = ((c + 1 : Nat) : Int) := by unfold Lp.cA; rw [h2]; omega
theorem nAt (h2 : L.a2 = 1) (i : Nat) : L.nA ((i + 1 : Nat) : Int) = ((i + 9 : Nat) : Int) := by unfold Lp.nA; rw [h2]; omega
theorem row_same {ro ro' : Nat → Ro} {g : Option Nat} {Q : List Nat} (h : ∀ u ∈ rest g Q, isL (ro' u) = isL (ro u)) : row ro' g Q = row ro g Q := List.filter_congr h
theorem rest_mem {j : Nat} (h : j ∈ rest g Q) : j ∈ Q := by
  cases g with
  | none => exact h
  | some t => exact List.mem_of_mem_tail h
theorem nodeOf (h : OrdJ f g Q W) {k : Nat} (hk : k < f.s.n) : ∃ i, f.nd k = ((i + 1 : Nat) : Int) ∧ f.nN k = i + 1 ∧ i + 9 < f.ps.ws.length := by
  obtain ⟨P, F, c⟩ := h.cor
  have := c.nr k hk
  have := h.nds k
  have := h.len
  unfold FL.nN at *
  exact ⟨(f.nd k).toNat - 1, by omega, by omega, by omega⟩
theorem clOf (h : OrdJ f g Q W) {k : Nat} (hk : k < f.s.n) : ∃ c : Nat, f.cl k = (c : Int) ∧ f.cN k = c ∧ c < 8 ∧ c + 1 < f.ps.ws.length := by
  have := h.cls k hk
  have := h.len
  unfold FL.cN
  exact ⟨(f.cl k).toNat, by omega, rfl, by omega, by omega⟩
theorem aheadOf (h : OrdJ f g Q W) {k : Nat} (hk : k < f.s.n) (hr : f.ro k = .loc ∨ f.ro k = .glo) : ∃ i, f.ahd k = ((i + 1 : Nat) : Int) ∧ f.aN k = i + 1 ∧ i + 9 < f.ps.ws.length := by
  obtain ⟨P, F, c⟩ := h.cor
  have := c.arng hk hr
  have := h.ahs k
  have := h.len
  unfold FL.aN at *
  exact ⟨(f.ahd k).toNat - 1, by omega, by omega, by omega⟩
theorem wK_at {ps : PSta} {c : Nat} (h : c < 8) : wK ps c = ps.ws.getD (c + 1) 0 := if_pos h
theorem upd_if {α : Type} (f : Nat → α) (k : Nat) (v : α) : (upd f k v k = v) ∧ ∀ j, j ≠ k → upd f k v j = f j := ⟨upd_same _ _ _, fun j hj => upd_other _ _ hj⟩
theorem row_out {ro ro' : Nat → Ro} {g : Option Nat} {Q : List Nat} {k : Nat} (hk : k ∉ Q) (h : ∀ u, u ≠ k → ro' u = ro u) : row ro' g Q = row ro g Q := row_same fun u hu => by rw [h u fun q => hk (q ▸ rest_mem hu)]
theorem row_in {ro ro' : Nat → Ro} {g : Option Nat} {Q : List Nat} {k : Nat} (hk : isL (ro' k) = isL (ro k)) (h : ∀ u, u ≠ k → ro' u = ro u) : row ro' g Q = row ro g Q := row_same fun u hu => by
  by_cases q : u = k
  · rw [q, hk]
  · rw [h u q]
theorem row_cons {ro ro' : Nat → Ro} {Q : List Nat} {k : Nat} (hk : k ∉ Q) (h : ∀ u, u ≠ k → ro' u = ro u) : row ro none (k :: Q) = (if isL (ro k) then [k] else []) ++ row ro' (some k) (k :: Q) := by
  have e : row ro' (some k) (k :: Q) = row ro none Q := row_same (g := none) (Q := Q) fun u hu => by rw [h u fun q => hk (q ▸ hu)]
  rw [e]
  show List.filter _ (k :: Q) = _
  rw [List.filter_cons]
  split <;> rfl
theorem que_cons {cl : Nat → Nat} {Q : List Nat} {k : Nat} (j : Nat) : que cl none (k :: Q) W j = (if cl k = j then [k] else []) ++ que cl (some k) (k :: Q) W j := by
  show List.filter _ (k :: Q) ++ W j = _
  rw [List.filter_cons]
  by_cases q : cl k = j
  · rw [if_pos (by simpa using q), if_pos q]; rfl
  · rw [if_neg (by simpa using q), if_neg q]; rfl
theorem rest_app {s : List Nat} (h : ∀ t, g = some t → Q ≠ []) : rest g (Q ++ s) = rest g Q ++ s := by
  cases g with
  | none => rfl
  | some t =>
    cases Q with
    | nil => exact absurd rfl (h t rfl)
    | cons a r => rfl
theorem stp10 (h : OrdJ f g Q W) (h1 : L.a1 = 0) (h2 : L.a2 = 1) {k : Nat} (hk : k < f.s.n) (sk : f.s.st k = 1) (pk : f.pc k = 0) : ∃ g' Q' W' y, Stp f (f.step L k k) g Q W k (f.did L k k) g' Q' W' y := by
  obtain ⟨ed, es⟩ := at_one (L := L) hk sk
  rw [ed, es]
  have hac : k < f.ps.ac.length := by rw [h.ac]; exact hk
  have hlen := h.len
  obtain ⟨P, F, c⟩ := h.cor
  have hr := ro0 sk pk
  obtain ⟨i, hi, hN, hil⟩ := h.nodeOf hk
  obtain ⟨cc, hcl, hcN, hc8, hcl'⟩ := h.clOf hk
  obtain ⟨b, lc, ld⟩ := do_store (v := wd (f.cl k) 1 0) hac ((congrArg L.nA hi).trans (nAt h2 i)) hil
  obtain ⟨wt, wk, f0, ff⟩ := ws_X hil b
  have e1 : f.acq L k k = { f with pc := upd f.pc k 1, ps := doS f.ps k 2 (L.nA (f.nd k)) 0 (wd (f.cl k) 1 0) } := by unfold FL.acq; rw [if_pos pk]
  have e2 : f.acqD L k k = Dd.no := by unfold FL.acqD; rw [if_pos pk]
  rw [e1, e2, fin_no]
  have hkQ := (c.ri k hk (.inl hr)).1
  refine ⟨g, Q, W, 1, h.stpM (.inl ⟨rfl, sk.symm⟩) rfl (by show (doS _ _ _ _ _ _).ws.length = _; rw [b, List.length_set]) lc ld (fun j e => ⟨upd_other _ _ e, rfl, rfl, rfl⟩) (by simp only [upd_same]; omega) (by omega) (fun _ => by simp only [upd_same]; omega) (fun _ _ => by first | exact upd_same _ _ _ | omega) ⟨h.nds k, h.ahs k, h.ofs k⟩ (fun hy hro => ⟨⟨P, F, ?_⟩, .same rfl (by decide) (fun _ => rfl), .same rfl rfl (row_out hkQ hro)⟩) (.inl (by simp only [upd_same]; rw [sk, pk]; simp [phs] <;> omega)) (fun w => absurd w (by decide)) (fun _ => .inl (by decide))⟩
  show Cor _ f.cN f.nN _ _ _ (wT (doS _ _ _ _ _ _)) (wK (doS _ _ _ _ _ _)) (wX (doS _ _ _ _ _ _)) _ _ _ _ _
  rw [wt, wk]
  refine c.s_store hk hr (ro1 hy (upd_same _ _ _)) hro ?_ (by rw [hN]; exact ff)
  rw [hN, f0, hcN, hcl]
  exact w_parts (.inr rfl) (.inl rfl)
theorem stp11 (h : OrdJ f g Q W) (h1 : L.a1 = 0) (h2 : L.a2 = 1) {k : Nat} (hk : k < f.s.n) (sk : f.s.st k = 1) (pk : f.pc k = 1) : ∃ g' Q' W' y, Stp f (f.step L k k) g Q W k (f.did L k k) g' Q' W' y := by
  obtain ⟨ed, es⟩ := at_one (L := L) hk sk
  rw [ed, es]
  have hac : k < f.ps.ac.length := by rw [h.ac]; exact hk
  have hlen := h.len
  obtain ⟨P, F, c⟩ := h.cor
  have hr := ro1 sk pk
  obtain ⟨i, hi, hN, hil⟩ := h.nodeOf hk
  obtain ⟨cc, hcl, hcN, hc8, hcl'⟩ := h.clOf hk
  obtain ⟨a1, b, lc, ld⟩ := do_swap (v := f.nd k) hac ((congrArg L.cA hcl).trans (cAt h2 cc)) hcl'
  obtain ⟨wt, ⟨k0, kk⟩, wx⟩ := ws_K hcl' hc8 b
  have hv : tellS f.ps k 3 (L.cA (f.cl k)) = wK f.ps cc := a1.trans (wK_at hc8).symm
  obtain ⟨m, hm⟩ := c.knn cc
  have hkQ := (c.ri k hk (.inr hr)).1
  obtain ⟨w0, ww⟩ := upd_if W cc (W cc ++ [k])
  have e2 : f.acqD L k k = ⟨0, true, false, false⟩ := by unfold FL.acqD; rw [if_neg (by omega), if_pos pk]
  have hqc : StepC (que f.cN g Q W) (f.cN k) k ⟨0, true, false, false⟩ (que f.cN g Q (upd W cc (W cc ++ [k]))) := by
    rw [hcN]
    refine .enq rfl ?_ fun j hj => ?_
    · unfold que; rw [w0, List.append_assoc]
    · unfold que; rw [ww j hj]
  have hnn : f.nd k = ((f.nN k : Nat) : Int) := by rw [hi, hN]
  by_cases q : wK f.ps cc = 0
  · have e1 : f.acq L k k = { f with pc := upd f.pc k 3, ahd := upd f.ahd k (wK f.ps cc), ps := doS f.ps k 3 (L.cA (f.cl k)) 0 (f.nd k) } := by unfold FL.acq; rw [if_neg (by omega), if_pos pk, hv, if_pos q]
    rw [e1, e2, fin_none (by rw [sk]; rfl)]
    refine ⟨g, Q, upd W cc (W cc ++ [k]), 1, h.stpM (.inl ⟨rfl, sk.symm⟩) rfl (by show (doS _ _ _ _ _ _).ws.length = _; rw [b, List.length_set]) lc ld (fun j e => ⟨upd_other _ _ e, rfl, upd_other _ _ e, rfl⟩) (by simp only [upd_same]; omega) (by omega) (fun _ => by simp only [upd_same]; omega) (fun _ _ => by first | exact upd_same _ _ _ | omega) ⟨h.nds k, by simp only [upd_same]; omega, h.ofs k⟩ (fun hy hro => ⟨⟨P, F, ?_⟩, hqc, .same rfl rfl (row_out hkQ hro)⟩) (.inl (by simp only [upd_same]; rw [sk, pk]; simp [phs] <;> omega)) (fun w => absurd w (by decide)) (fun _ => .inl (by decide))⟩
    show Cor _ f.cN f.nN _ _ _ (wT (doS _ _ _ _ _ _)) (wK (doS _ _ _ _ _ _)) (wX (doS _ _ _ _ _ _)) _ _ _ _ _
    rw [wt, wx]
    exact c.s_enq0 hk hr (by rw [hcN]; exact q) (ro3 hy (upd_same _ _ _)) hro (by rw [hcN, k0]; exact hnn) (by rw [hcN]; exact kk) (fun u hu => by show Int.toNat (upd _ _ _ u) = _; rw [upd_other _ _ hu]; rfl) (by rw [hcN]; exact w0) (by rw [hcN]; exact ww)
  · have e1 : f.acq L k k = { f with pc := upd f.pc k 2, ahd := upd f.ahd k (wK f.ps cc), ps := doS f.ps k 3 (L.cA (f.cl k)) 0 (f.nd k) } := by unfold FL.acq; rw [if_neg (by omega), if_pos pk, hv, if_neg q]
    rw [e1, e2, fin_none (by rw [sk]; rfl)]
    refine ⟨g, Q, upd W cc (W cc ++ [k]), 1, h.stpM (.inl ⟨rfl, sk.symm⟩) rfl (by show (doS _ _ _ _ _ _).ws.length = _; rw [b, List.length_set]) lc ld (fun j e => ⟨upd_other _ _ e, rfl, upd_other _ _ e, rfl⟩) (by simp only [upd_same]; omega) (by omega) (fun _ => by simp only [upd_same]; omega) (fun _ _ => by first | exact upd_same _ _ _ | omega) ⟨h.nds k, by simp only [upd_same]; omega, h.ofs k⟩ (fun hy hro => ⟨⟨P, F, ?_⟩, hqc, .same rfl rfl (row_out hkQ hro)⟩) (.inl (by simp only [upd_same]; rw [sk, pk]; simp [phs] <;> omega)) (fun w => absurd w (by decide)) (fun _ => .inl (by decide))⟩
    show Cor _ f.cN f.nN _ _ _ (wT (doS _ _ _ _ _ _)) (wK (doS _ _ _ _ _ _)) (wX (doS _ _ _ _ _ _)) _ _ _ _ _
    rw [wt, wx]
    exact c.s_enq1 hk hr (by rw [hcN]; exact q) (ro2 hy (upd_same _ _ _)) hro (by rw [hcN, k0]; exact hnn) (by rw [hcN]; exact kk) (by show ((Int.toNat (upd _ _ _ k) : Nat) : Int) = _; rw [upd_same, hcN]; omega) (fun u hu => by show Int.toNat (upd _ _ _ u) = _; rw [upd_other _ _ hu]; rfl) (by rw [hcN]; exact w0) (by rw [hcN]; exact ww)
theorem stp12 (h : OrdJ f g Q W) (h1 : L.a1 = 0) (h2 : L.a2 = 1) {k : Nat} (hk : k < f.s.n) (sk : f.s.st k = 1) (pk : f.pc k = 2) : ∃ g' Q' W' y, Stp f (f.step L k k) g Q W k (f.did L k k) g' Q' W' y := by
  obtain ⟨ed, es⟩ := at_one (L := L) hk sk
  rw [ed, es]
  have hac : k < f.ps.ac.length := by rw [h.ac]; exact hk
  have hlen := h.len
  obtain ⟨P, F, c⟩ := h.cor
  have hr := ro2 sk pk
  obtain ⟨i, hi, hA, hil⟩ := h.aheadOf hk (.inl hr)
  obtain ⟨cc, hcl, hcN, hc8, hcl'⟩ := h.clOf hk
  obtain ⟨a1, b, lc, ld⟩ := do_load hac ((congrArg L.nA hi).trans (nAt h2 i)) hil
  obtain ⟨wt, wk, wx⟩ := ws_same b
  have hv : tellS f.ps k 1 (L.nA (f.ahd k)) = wX f.ps (f.aN k) := by rw [hA]; exact a1
  have hlo := c.looks hk hr
  rw [hcN, ← hcl] at hlo
  rcases hlo with ⟨q1, q2, q3⟩ | ⟨q1, q2, q3, rfl, r, rfl⟩ | ⟨q, hqt, r, hw⟩
  · have e1 : f.acq L k k = { f with pc := upd f.pc k 2, ps := doS f.ps k 1 (L.nA (f.ahd k)) 0 0 } := by unfold FL.acq; rw [if_neg (by omega), if_neg (by omega), if_pos pk, hv, if_pos ⟨q1, q2⟩, if_neg (by rw [q3]; decide)]
    have e2 : f.acqD L k k = Dd.no := by unfold FL.acqD; rw [if_neg (by omega), if_neg (by omega), if_pos pk, hv, if_neg (fun w => by rw [q3] at w; exact absurd w.2 (by decide))]
    rw [e1, e2, fin_no]
    refine ⟨g, Q, W, 1, h.stpM (.inl ⟨rfl, sk.symm⟩) rfl (by show (doS _ _ _ _ _ _).ws.length = _; rw [b]) lc ld (fun j e => ⟨upd_other _ _ e, rfl, rfl, rfl⟩) (by simp only [upd_same]; omega) (by omega) (fun _ => by simp only [upd_same]; omega) (fun _ _ => by first | exact upd_same _ _ _ | omega) ⟨h.nds k, h.ahs k, h.ofs k⟩ (fun hy hro => ?_) (.inr ⟨.inr (.inr (.inl ⟨sk, pk, ⟨q1, q2⟩, q3⟩)), rfl, (upd_same _ _ _).trans pk.symm, rfl, b⟩) (fun w => absurd w (by decide)) (fun _ => .inl (by decide))⟩
    have hrk : FL.ro { f with pc := upd f.pc k 2, ps := doS f.ps k 1 (L.nA (f.ahd k)) 0 0 } k = .loc := ro2 hy (upd_same _ _ _)
    refine ⟨⟨P, F, ?_⟩, .same rfl (by decide) (fun _ => rfl), .same rfl rfl (row_in (by rw [hrk, hr]) hro)⟩
    show Cor _ f.cN f.nN _ _ _ (wT (doS _ _ _ _ _ _)) (wK (doS _ _ _ _ _ _)) (wX (doS _ _ _ _ _ _)) _ _ _ _ _
    rw [wt, wk, wx]
    exact cor_same c (ro_all (hrk.trans hr.symm) hro)
  · have e1 : f.acq L k k = { f with pc := upd f.pc k 0, ps := doS f.ps k 1 (L.nA (f.ahd k)) 0 0 } := by unfold FL.acq; rw [if_neg (by omega), if_neg (by omega), if_pos pk, hv, if_pos ⟨q1, q2⟩, if_pos q3]
    have e2 : f.acqD L k k = ⟨1, false, false, false⟩ := by unfold FL.acqD; rw [if_neg (by omega), if_neg (by omega), if_pos pk, hv, if_pos ⟨⟨q1, q2⟩, q3⟩]
    rw [e1, e2, fin_some hk (by rw [sk]; rfl : behindI (f.s.st k) 1 = some 2)]
    have hn := (List.nodup_cons.1 c.nq).1
    refine ⟨some k, k :: r, W, 2, h.stpM (.inr rfl) rfl (by show (doS _ _ _ _ _ _).ws.length = _; rw [b]) lc ld (fun j e => ⟨upd_other _ _ e, rfl, rfl, rfl⟩) (by simp only [upd_same]; omega) (by omega) (fun _ => by simp only [upd_same]; omega) (fun _ _ => by first | exact upd_same _ _ _ | omega) ⟨h.nds k, h.ahs k, h.ofs k⟩ (fun hy hro => ⟨⟨P, F, ?_⟩, .grant ⟨_, rfl⟩ ?_ fun j hj => ?_, .same rfl rfl ?_⟩) (.inl (by simp only [upd_same]; rw [sk, pk]; simp [phs] <;> omega)) (fun _ => ⟨sk, rfl, false, rfl⟩) (fun w => absurd rfl w)⟩
    · show Cor _ f.cN f.nN _ _ _ (wT (doS _ _ _ _ _ _)) (wK (doS _ _ _ _ _ _)) (wX (doS _ _ _ _ _ _)) _ _ _ _ _
      rw [wt, wk, wx]
      exact c.s_take (.inl hr) (roH hy) hro
    · rw [que_cons, if_pos rfl]; rfl
    · rw [que_cons j, if_neg fun q => hj q.symm]; rfl
    · rw [row_cons hn hro, hr]; rfl
  · have e1 : f.acq L k k = { f with pc := upd f.pc k 3, ps := doS f.ps k 1 (L.nA (f.ahd k)) 0 0 } := by unfold FL.acq; rw [if_neg (by omega), if_neg (by omega), if_pos pk, hv, if_neg q]
    have e2 : f.acqD L k k = Dd.no := by unfold FL.acqD; rw [if_neg (by omega), if_neg (by omega), if_pos pk, hv, if_neg (fun w => q w.1)]
    rw [e1, e2, fin_no]
    refine ⟨g, Q, W, 1, h.stpM (.inl ⟨rfl, sk.symm⟩) rfl (by show (doS _ _ _ _ _ _).ws.length = _; rw [b]) lc ld (fun j e => ⟨upd_other _ _ e, rfl, rfl, rfl⟩) (by simp only [upd_same]; omega) (by omega) (fun _ => by simp only [upd_same]; omega) (fun _ _ => by first | exact upd_same _ _ _ | omega) ⟨h.nds k, h.ahs k, h.ofs k⟩ (fun hy hro => ?_) (.inl (by simp only [upd_same]; rw [sk, pk]; simp [phs] <;> omega)) (fun w => absurd w (by decide)) (fun _ => .inl (by decide))⟩
    have hrk : FL.ro { f with pc := upd f.pc k 3, ps := doS f.ps k 1 (L.nA (f.ahd k)) 0 0 } k = .mas := ro3 hy (upd_same _ _ _)
    refine ⟨⟨P, F, ?_⟩, .same rfl (by decide) (fun _ => rfl), .same rfl rfl (row_in (by rw [hrk, hr]; rfl) hro)⟩
    show Cor _ f.cN f.nN _ _ _ (wT (doS _ _ _ _ _ _)) (wK (doS _ _ _ _ _ _)) (wX (doS _ _ _ _ _ _)) _ _ _ _ _
    rw [wt, wk, wx]
    exact c.s_go hk hr (by rw [hcN]; exact hqt) (by rw [hcN]; exact hw) hrk hro
theorem stp13 (h : OrdJ f g Q W) (h1 : L.a1 = 0) (h2 : L.a2 = 1) {k : Nat} (hk : k < f.s.n) (sk : f.s.st k = 1) (pk : f.pc k = 3) : ∃ g' Q' W' y, Stp f (f.step L k k) g Q W k (f.did L k k) g' Q' W' y := by
  obtain ⟨ed, es⟩ := at_one (L := L) hk sk
  rw [ed, es]
  have hac : k < f.ps.ac.length := by rw [h.ac]; exact hk
  have hlen := h.len
  obtain ⟨P, F, c⟩ := h.cor
  have hr := ro3 sk pk
  obtain ⟨cc, hcl, hcN, hc8, hcl'⟩ := h.clOf hk
  obtain ⟨a1, b, lc, ld⟩ := do_load hac ((congrArg L.cA hcl).trans (cAt h2 cc)) hcl'
  obtain ⟨wt, wk, wx⟩ := ws_same b
  have hv : tellS f.ps k 1 (L.cA (f.cl k)) = wK f.ps cc := a1.trans (wK_at hc8).symm
  obtain ⟨m, hm⟩ := c.knn cc
  have e1 : f.acq L k k = { f with pc := upd f.pc k 4, of := upd f.of k (wK f.ps cc), ps := doS f.ps k 1 (L.cA (f.cl k)) 0 0 } := by unfold FL.acq; rw [if_neg (by omega), if_neg (by omega), if_neg (by omega), if_pos pk, hv]
  have e2 : f.acqD L k k = Dd.no := by unfold FL.acqD; rw [if_neg (by omega), if_neg (by omega), if_neg (by omega), if_pos pk]
  rw [e1, e2, fin_no]
  refine ⟨g, Q, W, 1, h.stpM (.inl ⟨rfl, sk.symm⟩) rfl (by show (doS _ _ _ _ _ _).ws.length = _; rw [b]) lc ld (fun j e => ⟨upd_other _ _ e, rfl, rfl, upd_other _ _ e⟩) (by simp only [upd_same]; omega) (by omega) (fun _ => by simp only [upd_same]; omega) (fun _ _ => by first | exact upd_same _ _ _ | omega) ⟨h.nds k, h.ahs k, by simp only [upd_same]; omega⟩ (fun hy hro => ?_) (.inl (by simp only [upd_same]; rw [sk, pk]; simp [phs] <;> omega)) (fun w => absurd w (by decide)) (fun _ => .inl (by decide))⟩
  have hrk : FL.ro { f with pc := upd f.pc k 4, of := upd f.of k (wK f.ps cc), ps := doS f.ps k 1 (L.cA (f.cl k)) 0 0 } k = .bat m := ro4 hy (upd_same _ _ _) ((upd_same _ _ _).trans hm)
  refine ⟨⟨P, F, ?_⟩, .same rfl (by decide) (fun _ => rfl), .same rfl rfl (row_in (by rw [hrk, hr]; rfl) hro)⟩
  show Cor _ f.cN f.nN _ _ _ (wT (doS _ _ _ _ _ _)) (wK (doS _ _ _ _ _ _)) (wX (doS _ _ _ _ _ _)) _ _ _ _ _
  rw [wt, wk, wx]
  exact c.s_of hk hr (by rw [hcN]; exact hm) hrk hro
theorem stp14 (h : OrdJ f g Q W) (h1 : L.a1 = 0) (h2 : L.a2 = 1) {k : Nat} (hk : k < f.s.n) (sk : f.s.st k = 1) (pk : f.pc k = 4) : ∃ g' Q' W' y, Stp f (f.step L k k) g Q W k (f.did L k k) g' Q' W' y := by
  obtain ⟨ed, es⟩ := at_one (L := L) hk sk
  rw [ed, es]
  have hac : k < f.ps.ac.length := by rw [h.ac]; exact hk
  have hlen := h.len
  obtain ⟨P, F, c⟩ := h.cor
  obtain ⟨o, ho⟩ := Int.eq_ofNat_of_zero_le (h.ofs k)
  have hr := ro4 sk pk ho
  obtain ⟨a1, b, lc, ld⟩ := do_swap (v := f.of k) (i := 0) hac h1 (by omega)
  obtain ⟨wt, wk, wx⟩ := ws_T (by omega) b
  have hv : tellS f.ps k 3 L.a1 = wT f.ps := a1
  obtain ⟨m, hm⟩ := c.tnn
  obtain ⟨z, s, B, hw, hz, hzo⟩ := c.cut hk hr
  have e1 : f.acq L k k = { f with pc := upd f.pc k 5, ahd := upd f.ahd k (wT f.ps), ps := doS f.ps k 3 L.a1 0 (f.of k) } := by unfold FL.acq; rw [if_neg (by omega), if_neg (by omega), if_neg (by omega), if_neg (by omega), if_pos pk, hv]
  have e2 : f.acqD L k k = ⟨0, false, true, false⟩ := by unfold FL.acqD; rw [if_neg (by omega), if_neg (by omega), if_neg (by omega), if_neg (by omega), if_pos pk]
  rw [e1, e2, fin_none (by rw [sk]; rfl)]
  obtain ⟨w0, ww⟩ := upd_if W (f.cN k) B
  obtain ⟨p0, pp⟩ := upd_if P (f.cN k) o
  have hrest : rest g (Q ++ k :: s) = rest g Q ++ k :: s := rest_app fun t ht => by
    obtain ⟨_, r, p, hQ, _⟩ := c.gs t ht
    rw [hQ]; simp
  have sW : ∀ x ∈ k :: s, x ∈ W (f.cN k) := fun x hx => by rw [hw]; exact List.mem_append_left _ hx
  have kQ : k ∉ Q := fun q => (c.mw _ k (sW k List.mem_cons_self)).2.2.1 q
  have hnd := c.nw (f.cN k)
  rw [hw] at hnd
  have ks : k ∉ s := fun q => (List.nodup_cons.1 hnd).1 (List.mem_append_left _ q)
  have hsl : ∀ x ∈ s, f.ro x = .loc := fun x hx => by
    obtain ⟨x', hx'⟩ := adj_of (Q := (k :: s) ++ B) (j := x) (List.mem_append_left _ (List.mem_cons_of_mem _ hx)) (fun r q => ks (by rw [(List.cons.inj q).1]; exact hx))
    rw [← hw] at hx'
    exact (c.aw _ x' x hx').2
  refine ⟨g, Q ++ k :: s, upd W (f.cN k) B, 1, h.stpM (.inl ⟨rfl, sk.symm⟩) rfl (by show (doS _ _ _ _ _ _).ws.length = _; rw [b, List.length_set]) lc ld (fun j e => ⟨upd_other _ _ e, rfl, upd_other _ _ e, rfl⟩) (by simp only [upd_same]; omega) (by omega) (fun _ => by simp only [upd_same]; omega) (fun _ _ => by first | exact upd_same _ _ _ | omega) ⟨h.nds k, by simp only [upd_same]; omega, h.ofs k⟩ (fun hy hro => ?_) (.inl (by simp only [upd_same]; rw [sk, pk]; simp [phs] <;> omega)) (fun w => absurd w (by decide)) (fun _ => .inl (by decide))⟩
  have hrk : FL.ro { f with pc := upd f.pc k 5, ahd := upd f.ahd k (wT f.ps), ps := doS f.ps k 3 L.a1 0 (f.of k) } k = .spl 5 o := ro5 (p := 5) hy (upd_same _ _ _) (.inl rfl) ho
  refine ⟨⟨upd P (f.cN k) o, F, ?_⟩, .same rfl (by decide) (fun j => ?_), .arr rfl ?_⟩
  · show Cor _ f.cN f.nN _ _ _ (wT (doS _ _ _ _ _ _)) (wK (doS _ _ _ _ _ _)) (wX (doS _ _ _ _ _ _)) _ _ _ _ _
    rw [wk, wx]
    exact c.s_arr hk hr hw hz hzo hrk hro (wt.trans ho) (by show ((Int.toNat (upd _ _ _ k) : Nat) : Int) = _; rw [upd_same]; omega) (fun u hu => by show Int.toNat (upd _ _ _ u) = _; rw [upd_other _ _ hu]; rfl) w0 ww p0 pp
  · unfold que
    rw [hrest, List.filter_append, List.append_assoc]
    congr 1
    by_cases q : j = f.cN k
    · subst q
      rw [w0, List.filter_eq_self.2 (fun x hx => by simpa using (c.wl _ x (sW x hx)).2), ← hw]
    · rw [ww j q, List.filter_eq_nil_iff.2 (fun x hx => by rw [(c.wl _ x (sW x hx)).2]; simpa using fun e => q e.symm)]; rfl
  · unfold row
    have hs0 : List.filter (fun t => isL (FL.ro { f with pc := upd f.pc k 5, ahd := upd f.ahd k (wT f.ps), ps := doS f.ps k 3 L.a1 0 (f.of k) } t)) s = [] := List.filter_eq_nil_iff.2 fun x hx => by rw [hro x (fun q => ks (q ▸ hx)), hsl x hx]; decide
    rw [hrest, List.filter_append, List.filter_cons, if_pos (by rw [hrk]; rfl), hs0]
    congr 1
    exact row_out kQ hro
theorem stp15 (h : OrdJ f g Q W) (h1 : L.a1 = 0) (h2 : L.a2 = 1) {k : Nat} (hk : k < f.s.n) (sk : f.s.st k = 1) (pk : f.pc k = 5) : ∃ g' Q' W' y, Stp f (f.step L k k) g Q W k (f.did L k k) g' Q' W' y := by
  obtain ⟨ed, es⟩ := at_one (L := L) hk sk
  rw [ed, es]
  have hac : k < f.ps.ac.length := by rw [h.ac]; exact hk
  have hlen := h.len
  obtain ⟨P, F, c⟩ := h.cor
  obtain ⟨o, ho⟩ := Int.eq_ofNat_of_zero_le (h.ofs k)
  have hr := ro5 (p := 5) sk pk (.inl rfl) ho
  obtain ⟨_, _, ⟨z, z1, z2, z3⟩, _⟩ := c.rs k hk 5 o hr
  have zn := c.nr z (c.ql z (pre_mem z2).2)
  obtain ⟨i, rfl⟩ : ∃ i, o = i + 1 := ⟨o - 1, by omega⟩
  obtain ⟨a1, b, lc, ld⟩ := do_load hac ((congrArg L.nA ho).trans (nAt h2 i)) (show i + 9 < f.ps.ws.length by omega)
  obtain ⟨wt, wk, wx⟩ := ws_same b
  have hv : tellS f.ps k 1 (L.nA (f.of k)) = wX f.ps (i + 1) := a1
  have e1 : f.acq L k k = { f with pc := upd f.pc k 6, wv := upd f.wv k (wX f.ps (i + 1)), ps := doS f.ps k 1 (L.nA (f.of k)) 0 0 } := by unfold FL.acq; rw [if_neg (by omega), if_neg (by omega), if_neg (by omega), if_neg (by omega), if_neg (by omega), if_pos pk, hv]
  have e2 : f.acqD L k k = Dd.no := by unfold FL.acqD; rw [if_neg (by omega), if_neg (by omega), if_neg (by omega), if_neg (by omega), if_neg (by omega), if_pos pk]
  rw [e1, e2, fin_no]
  refine ⟨g, Q, W, 1, h.stpM (.inl ⟨rfl, sk.symm⟩) rfl (by show (doS _ _ _ _ _ _).ws.length = _; rw [b]) lc ld (fun j e => ⟨upd_other _ _ e, rfl, rfl, rfl⟩) (by simp only [upd_same]; omega) (by omega) (fun _ => by simp only [upd_same]; omega) (fun _ _ => by first | exact upd_same _ _ _ | omega) ⟨h.nds k, h.ahs k, h.ofs k⟩ (fun hy hro => ?_) (.inl (by simp only [upd_same]; rw [sk, pk]; simp [phs] <;> omega)) (fun w => absurd w (by decide)) (fun _ => .inl (by decide))⟩
  have hrk : FL.ro { f with pc := upd f.pc k 6, wv := upd f.wv k (wX f.ps (i + 1)), ps := doS f.ps k 1 (L.nA (f.of k)) 0 0 } k = .spl 6 (i + 1) := ro5 (p := 6) hy (upd_same _ _ _) (.inr rfl) ho
  refine ⟨⟨P, F, ?_⟩, .same rfl (by decide) (fun _ => rfl), .same rfl rfl (row_in (by rw [hrk, hr]; rfl) hro)⟩
  show Cor _ f.cN f.nN _ _ _ (wT (doS _ _ _ _ _ _)) (wK (doS _ _ _ _ _ _)) (wX (doS _ _ _ _ _ _)) _ _ _ _ _
  rw [wt, wk, wx]
  exact c.s_read hk (pre_mem z2).1 (.inl ⟨_, hr, hrk, upd_same _ _ _⟩) hro (fun u hu => upd_other _ _ hu)
theorem stp16 (h : OrdJ f g Q W) (h1 : L.a1 = 0) (h2 : L.a2 = 1) {k : Nat} (hk : k < f.s.n) (sk : f.s.st k = 1) (pk : f.pc k = 6) : ∃ g' Q' W' y, Stp f (f.step L k k) g Q W k (f.did L k k) g' Q' W' y := by
  obtain ⟨ed, es⟩ := at_one (L := L) hk sk
  rw [ed, es]
  have hac : k < f.ps.ac.length := by rw [h.ac]; exact hk
  have hlen := h.len
  obtain ⟨P, F, c⟩ := h.cor
  obtain ⟨o, ho⟩ := Int.eq_ofNat_of_zero_le (h.ofs k)
  have hr := ro5 (p := 6) sk pk (.inr rfl) ho
  obtain ⟨_, _, ⟨z, z1, z2, z3⟩, _, hV, _⟩ := c.rs k hk 6 o hr
  have hV := hV rfl
  have zn := c.nr z (c.ql z (pre_mem z2).2)
  obtain ⟨i, rfl⟩ : ∃ i, o = i + 1 := ⟨o - 1, by omega⟩
  obtain ⟨a1, b, lc, ld⟩ := do_cas (old := f.wv k) (v := wd (wCl (f.wv k)) (wWt (f.wv k)) 1) hac ((congrArg L.nA ho).trans (nAt h2 i)) (show i + 9 < f.ps.ws.length by omega)
  have hw : f.ps.ws.getD (i + 9) 0 = f.wv k := hV.symm
  rw [if_pos hw] at b
  obtain ⟨wt, wk, f0, ff⟩ := ws_X (by omega) b
  have e1 : f.acq L k k = { f with pc := upd f.pc k 7, ps := doS f.ps k 4 (L.nA (f.of k)) (f.wv k) (wd (wCl (f.wv k)) (wWt (f.wv k)) 1) } := by unfold FL.acq; rw [if_neg (by omega), if_neg (by omega), if_neg (by omega), if_neg (by omega), if_neg (by omega), if_neg (by omega), if_pos pk, if_pos (a1.2 hw)]
  have e2 : f.acqD L k k = Dd.no := by unfold FL.acqD; rw [if_neg (by omega), if_neg (by omega), if_neg (by omega), if_neg (by omega), if_neg (by omega), if_neg (by omega), if_pos pk]
  rw [e1, e2, fin_no]
  refine ⟨g, Q, W, 1, h.stpM (.inl ⟨rfl, sk.symm⟩) rfl (by show (doS _ _ _ _ _ _).ws.length = _; rw [b, List.length_set]) lc ld (fun j e => ⟨upd_other _ _ e, rfl, rfl, rfl⟩) (by simp only [upd_same]; omega) (by omega) (fun _ => by simp only [upd_same]; omega) (fun _ _ => by first | exact upd_same _ _ _ | omega) ⟨h.nds k, h.ahs k, h.ofs k⟩ (fun hy hro => ?_) (.inl (by simp only [upd_same]; rw [sk, pk]; simp [phs] <;> omega)) (fun w => absurd w (by decide)) (fun _ => .inl (by decide))⟩
  have hrk : FL.ro { f with pc := upd f.pc k 7, ps := doS f.ps k 4 (L.nA (f.of k)) (f.wv k) (wd (wCl (f.wv k)) (wWt (f.wv k)) 1) } k = .glo := ro7 hy (upd_same _ _ _)
  refine ⟨⟨P, F, ?_⟩, .same rfl (by decide) (fun _ => rfl), .same rfl rfl (row_in (by rw [hrk, hr]; rfl) hro)⟩
  show Cor _ f.cN f.nN _ _ _ (wT (doS _ _ _ _ _ _)) (wK (doS _ _ _ _ _ _)) (wX (doS _ _ _ _ _ _)) _ _ _ _ _
  rw [wt, wk]
  refine c.s_cas hk hr hrk hro ?_ ff
  rw [f0, hV]
  exact w_parts (by unfold wWt; omega) (.inr rfl)
theorem stp17 (h : OrdJ f g Q W) (h1 : L.a1 = 0) (h2 : L.a2 = 1) {k : Nat} (hk : k < f.s.n) (sk : f.s.st k = 1) (pk : f.pc k = 7) : ∃ g' Q' W' y, Stp f (f.step L k k) g Q W k (f.did L k k) g' Q' W' y := by
  obtain ⟨ed, es⟩ := at_one (L := L) hk sk
  rw [ed, es]
  have hac : k < f.ps.ac.length := by rw [h.ac]; exact hk
  have hlen := h.len
  obtain ⟨P, F, c⟩ := h.cor
  have hr := ro7 sk pk
  obtain ⟨i, hi, hA, hil⟩ := h.aheadOf hk (.inr hr)
  obtain ⟨a1, b, lc, ld⟩ := do_load hac ((congrArg L.nA hi).trans (nAt h2 i)) hil
  obtain ⟨wt, wk, wx⟩ := ws_same b
  have hv : tellS f.ps k 1 (L.nA (f.ahd k)) = wX f.ps (f.aN k) := by rw [hA]; exact a1
  rcases c.looksG hk hr with q3 | ⟨q3, rfl, r, rfl⟩
  · have e1 : f.acq L k k = { f with pc := upd f.pc k 7, ps := doS f.ps k 1 (L.nA (f.ahd k)) 0 0 } := by unfold FL.acq; rw [if_neg (by omega), if_neg (by omega), if_neg (by omega), if_neg (by omega), if_neg (by omega), if_neg (by omega), if_neg (by omega), hv, if_neg (by rw [q3]; decide)]
    have e2 : f.acqD L k k = Dd.no := by unfold FL.acqD; rw [if_neg (by omega), if_neg (by omega), if_neg (by omega), if_neg (by omega), if_neg (by omega), if_neg (by omega), if_neg (by omega), hv, if_neg (by rw [q3]; decide)]
    rw [e1, e2, fin_no]
    refine ⟨g, Q, W, 1, h.stpM (.inl ⟨rfl, sk.symm⟩) rfl (by show (doS _ _ _ _ _ _).ws.length = _; rw [b]) lc ld (fun j e => ⟨upd_other _ _ e, rfl, rfl, rfl⟩) (by simp only [upd_same]; omega) (by omega) (fun _ => by simp only [upd_same]; omega) (fun _ _ => by first | exact upd_same _ _ _ | omega) ⟨h.nds k, h.ahs k, h.ofs k⟩ (fun hy hro => ?_) (.inr ⟨.inr (.inr (.inr ⟨sk, pk, q3⟩)), rfl, (upd_same _ _ _).trans pk.symm, rfl, b⟩) (fun w => absurd w (by decide)) (fun _ => .inl (by decide))⟩
    have hrk : FL.ro { f with pc := upd f.pc k 7, ps := doS f.ps k 1 (L.nA (f.ahd k)) 0 0 } k = .glo := ro7 hy (upd_same _ _ _)
    refine ⟨⟨P, F, ?_⟩, .same rfl (by decide) (fun _ => rfl), .same rfl rfl (row_in (by rw [hrk, hr]) hro)⟩
    show Cor _ f.cN f.nN _ _ _ (wT (doS _ _ _ _ _ _)) (wK (doS _ _ _ _ _ _)) (wX (doS _ _ _ _ _ _)) _ _ _ _ _
    rw [wt, wk, wx]
    exact cor_same c (ro_all (hrk.trans hr.symm) hro)
  · have e1 : f.acq L k k = { f with pc := upd f.pc k 0, ps := doS f.ps k 1 (L.nA (f.ahd k)) 0 0 } := by unfold FL.acq; rw [if_neg (by omega), if_neg (by omega), if_neg (by omega), if_neg (by omega), if_neg (by omega), if_neg (by omega), if_neg (by omega), hv, if_pos q3]
    have e2 : f.acqD L k k = ⟨1, false, false, true⟩ := by unfold FL.acqD; rw [if_neg (by omega), if_neg (by omega), if_neg (by omega), if_neg (by omega), if_neg (by omega), if_neg (by omega), if_neg (by omega), hv, if_pos q3]
    rw [e1, e2, fin_some hk (by rw [sk]; rfl : behindI (f.s.st k) 1 = some 2)]
    have hn := (List.nodup_cons.1 c.nq).1
    refine ⟨some k, k :: r, W, 2, h.stpM (.inr rfl) rfl (by show (doS _ _ _ _ _ _).ws.length = _; rw [b]) lc ld (fun j e => ⟨upd_other _ _ e, rfl, rfl, rfl⟩) (by simp only [upd_same]; omega) (by omega) (fun _ => by simp only [upd_same]; omega) (fun _ _ => by first | exact upd_same _ _ _ | omega) ⟨h.nds k, h.ahs k, h.ofs k⟩ (fun hy hro => ⟨⟨P, F, ?_⟩, .grant ⟨_, rfl⟩ ?_ fun j hj => ?_, .lead rfl ?_⟩) (.inl (by simp only [upd_same]; rw [sk, pk]; simp [phs] <;> omega)) (fun _ => ⟨sk, rfl, true, rfl⟩) (fun w => absurd rfl w)⟩
    · show Cor _ f.cN f.nN _ _ _ (wT (doS _ _ _ _ _ _)) (wK (doS _ _ _ _ _ _)) (wX (doS _ _ _ _ _ _)) _ _ _ _ _
      rw [wt, wk, wx]
      exact c.s_take (.inr hr) (roH hy) hro
    · rw [que_cons, if_pos rfl]; rfl
    · rw [que_cons j, if_neg fun q => hj q.symm]; rfl
    · rw [row_cons hn hro, hr]; rfl
theorem stp30 (h : OrdJ f g Q W) (h1 : L.a1 = 0) (h2 : L.a2 = 1) {k : Nat} (hk : k < f.s.n) (sk : f.s.st k = 3) (pk : f.pc k = 0) : ∃ g' Q' W' y, Stp f (f.step L k k) g Q W k (f.did L k k) g' Q' W' y := by
  obtain ⟨ed, es⟩ := at_three (L := L) hk sk
  rw [ed, es]
  have hac : k < f.ps.ac.length := by rw [h.ac]; exact hk
  have hlen := h.len
  obtain ⟨P, F, c⟩ := h.cor
  have hr := roU (p := 0) sk pk
  have hg := c.rh k hk 0 hr
  obtain ⟨_, r, p, hQ, hr2, _⟩ := c.gs k hg
  obtain ⟨i, hi, hN, hil⟩ := h.nodeOf hk
  obtain ⟨a1, b, lc, ld⟩ := do_load hac ((congrArg L.nA hi).trans (nAt h2 i)) hil
  obtain ⟨wt, wk, wx⟩ := ws_same b
  have hv : tellS f.ps k 1 (L.nA (f.nd k)) = wX f.ps (f.nN k) := by rw [hN]; exact a1
  have e1 : f.rel L k k = { f with pc := upd f.pc k 1, wv := upd f.wv k (wX f.ps (f.nN k)), ps := doS f.ps k 1 (L.nA (f.nd k)) 0 0 } := by unfold FL.rel; rw [if_pos pk, hv]
  have e2 : f.relD L k k = Dd.no := by unfold FL.relD; rw [if_pos pk]
  rw [e1, e2, fin_no]
  refine ⟨g, Q, W, 3, h.stpM (.inl ⟨rfl, sk.symm⟩) rfl (by show (doS _ _ _ _ _ _).ws.length = _; rw [b]) lc ld (fun j e => ⟨upd_other _ _ e, rfl, rfl, rfl⟩) (by simp only [upd_same]; omega) (by omega) (fun _ => by simp only [upd_same]; omega) (fun _ _ => by first | exact upd_same _ _ _ | omega) ⟨h.nds k, h.ahs k, h.ofs k⟩ (fun hy hro => ?_) (.inl (by simp only [upd_same]; rw [sk, pk]; simp [phs] <;> omega)) (fun w => absurd w (by decide)) (fun _ => .inl (by decide))⟩
  have hrk : FL.ro { f with pc := upd f.pc k 1, wv := upd f.wv k (wX f.ps (f.nN k)), ps := doS f.ps k 1 (L.nA (f.nd k)) 0 0 } k = .hold 1 := roU (p := 1) hy (upd_same _ _ _)
  refine ⟨⟨P, F, ?_⟩, .same rfl (by decide) (fun _ => rfl), .same rfl rfl (row_in (by rw [hrk, hr]; rfl) hro)⟩
  show Cor _ f.cN f.nN _ _ _ (wT (doS _ _ _ _ _ _)) (wK (doS _ _ _ _ _ _)) (wX (doS _ _ _ _ _ _)) _ _ _ _ _
  rw [wt, wk, wx]
  exact c.s_read hk (by rw [hQ]; exact List.mem_cons_self) (.inr ⟨hr, hrk, upd_same _ _ _⟩) hro (fun u hu => upd_other _ _ hu)
theorem stp31 (h : OrdJ f g Q W) (h1 : L.a1 = 0) (h2 : L.a2 = 1) {k : Nat} (hk : k < f.s.n) (sk : f.s.st k = 3) (pk : f.pc k = 1) : ∃ g' Q' W' y, Stp f (f.step L k k) g Q W k (f.did L k k) g' Q' W' y := by
  obtain ⟨ed, es⟩ := at_three (L := L) hk sk
  rw [ed, es]
  have hac : k < f.ps.ac.length := by rw [h.ac]; exact hk
  have hlen := h.len
  obtain ⟨P, F, c⟩ := h.cor
  have hr := roU (p := 1) sk pk
  obtain rfl := c.rh k hk 1 hr
  obtain ⟨_, r, p, rfl, hr2, _, hV⟩ := c.gs k rfl
  have hV := hV (by rw [hr] at hr2; cases hr2; rfl)
  obtain ⟨i, hi, hN, hil⟩ := h.nodeOf hk
  obtain ⟨a1, b, lc, ld⟩ := do_cas (old := f.wv k) (v := wd (wCl (f.wv k)) 0 (wSp (f.wv k))) hac ((congrArg L.nA hi).trans (nAt h2 i)) hil
  have hw : f.ps.ws.getD (i + 9) 0 = f.wv k := by rw [hV, hN]; rfl
  rw [if_pos hw] at b
  obtain ⟨wt, wk, f0, ff⟩ := ws_X hil b
  have e1 : f.rel L k k = { f with pc := upd f.pc k 0, nd := upd f.nd k (f.ahd k), ps := doS f.ps k 4 (L.nA (f.nd k)) (f.wv k) (wd (wCl (f.wv k)) 0 (wSp (f.wv k))) } := by unfold FL.rel; rw [if_neg (by omega), if_pos (a1.2 hw)]
  have e2 : f.relD L k k = ⟨3, false, false, false⟩ := by unfold FL.relD; rw [if_neg (by omega), if_pos (a1.2 hw)]
  rw [e1, e2, fin_some hk (by rw [sk]; rfl : behindI (f.s.st k) 3 = some 0)]
  refine ⟨none, r, W, 0, h.stpM (.inr rfl) rfl (by show (doS _ _ _ _ _ _).ws.length = _; rw [b, List.length_set]) lc ld (fun j e => ⟨upd_other _ _ e, upd_other _ _ e, rfl, rfl⟩) (by simp only [upd_same]; omega) (by omega) (fun _ => by simp only [upd_same]; omega) (fun _ _ => by first | exact upd_same _ _ _ | omega) ⟨by simp only [upd_same]; exact h.ahs k, h.ahs k, h.ofs k⟩ (fun hy hro => ?_) (.inl (by simp only [upd_same]; rw [sk, pk]; simp [phs] <;> omega)) (fun w => absurd w (by decide)) (fun _ => .inl (by decide))⟩
  have hkr : k ∉ r := (List.nodup_cons.1 c.nq).1
  refine ⟨⟨P, f.nN k, ?_⟩, .same rfl (by decide) (fun _ => rfl), .same rfl rfl (row_same (g := none) (Q := r) fun u hu => by rw [hro u fun q => hkr (q ▸ hu)])⟩
  show Cor _ f.cN _ _ _ _ (wT (doS _ _ _ _ _ _)) (wK (doS _ _ _ _ _ _)) (wX (doS _ _ _ _ _ _)) _ _ _ _ _
  rw [wt, wk]
  obtain ⟨r', hr', hc⟩ := c.s_free (ro' := FL.ro { f with s := f.s.set k 0 0, pc := upd f.pc k 0, nd := upd f.nd k (f.ahd k), ps := doS f.ps k 4 (L.nA (f.nd k)) (f.wv k) (wd (wCl (f.wv k)) 0 (wSp (f.wv k))) }) (nd' := FL.nN { f with nd := upd f.nd k (f.ahd k) }) (X' := wX (doS f.ps k 4 (L.nA (f.nd k)) (f.wv k) (wd (wCl (f.wv k)) 0 (wSp (f.wv k))))) (roI hy) hro (by show Int.toNat (upd _ _ _ k) = _; rw [upd_same]; rfl) (fun u hu => by show Int.toNat (upd _ _ _ u) = _; rw [upd_other _ _ hu]; rfl) (by rw [hN, f0, hV, hN]; exact w_parts (.inl rfl) (by unfold wSp; omega)) (by rw [hN]; exact ff)
  obtain rfl := (List.cons.inj hr').2
  exact hc
theorem stp (h : OrdJ f g Q W) (h1 : L.a1 = 0) (h2 : L.a2 = 1) {k : Nat} (hk : k < f.s.n) : ∃ g' Q' W' y, Stp f (f.step L k k) g Q W k (f.did L k k) g' Q' W' y := by
  have hp := h.prg k
  have hst := h.sts k hk
  by_cases s1 : f.s.st k = 1
  · have : f.pc k = 0 ∨ f.pc k = 1 ∨ f.pc k = 2 ∨ f.pc k = 3 ∨ f.pc k = 4 ∨ f.pc k = 5 ∨ f.pc k = 6 ∨ f.pc k = 7 := by omega
    rcases this with p | p | p | p | p | p | p | p
    · exact h.stp10 h1 h2 hk s1 p
    · exact h.stp11 h1 h2 hk s1 p
    · exact h.stp12 h1 h2 hk s1 p
    · exact h.stp13 h1 h2 hk s1 p
    · exact h.stp14 h1 h2 hk s1 p
    · exact h.stp15 h1 h2 hk s1 p
    · exact h.stp16 h1 h2 hk s1 p
    · exact h.stp17 h1 h2 hk s1 p
  by_cases s3 : f.s.st k = 3
  · have := h.pc3 k hk s3
    have : f.pc k = 0 ∨ f.pc k = 1 := by omega
    rcases this with p | p
    · exact h.stp30 h1 h2 hk s3 p
    · exact h.stp31 h1 h2 hk s3 p
  obtain ⟨d1, d2⟩ := at_idle (L := L) hk s1 s3
  rw [d1, d2]
  exact ⟨g, Q, W, f.s.st k, h, .same rfl (by decide) (fun _ => rfl), .same rfl rfl rfl, upd_self _ _, rfl, rfl, fun _ _ => ⟨rfl, rfl⟩, Nat.le_succ _, .inr ⟨by unfold Halt; omega, rfl, rfl, rfl, rfl⟩, fun w => absurd w (by decide), fun _ => by omega⟩
theorem step (h : OrdJ f g Q W) (h1 : L.a1 = 0) (h2 : L.a2 = 1) (t : Int) :
    (∃ (k : Nat) (g' : Option Nat) (Q' : List Nat) (W' : Nat → List Nat), k < f.s.n ∧ t = (k : Int) ∧ OrdJ (f.step L t t) g' Q' W' ∧ (f.step L t t).ps.D.length ≤ f.ps.D.length + 1 ∧ StepC (que f.cN g Q W) (f.cN k) k (f.did L t t) (que f.cN g' Q' W') ∧ StepQ (row f.ro g Q) k (f.did L t t) (row (f.step L t t).ro g' Q') ∧ (f.step L t t).cl = f.cl) ∨ (f.did L t t = Dd.no ∧ f.step L t t = f) := by
  by_cases ht : 0 ≤ t ∧ t < f.s.n
  · obtain ⟨k, rfl⟩ := Int.eq_ofNat_of_zero_le ht.1
    obtain ⟨g', Q', W', y, hs⟩ := h.stp h1 h2 (show k < f.s.n by omega)
    exact .inl ⟨k, g', Q', W', by omega, rfl, hs.ord, hs.D, hs.q, hs.r, hs.cl⟩
  · exact .inr (at_none (L := L) ht)
theorem lock_ro (h : OrdJ f g Q W) (t d : Int) : (f.lock t d).ro = f.ro := by
  unfold FL.lock SS.lock
  split
  · rename_i he
    unfold lockE at he
    split at he
    · rename_i hc
      split at he
      · rename_i hs
        have hk : t.toNat < f.s.n := by omega
        have p0 := h.pcI _ hk (by omega) (by omega)
        exact funext (ro_all (f' := { f with s := f.s.set t.toNat 1 d }) (k := t.toNat) ((ro0 (f := { f with s := f.s.set t.toNat 1 d }) (upd_same _ _ _) p0).trans (roI hs).symm) (ro_other (y := 1) (fun _ => rfl) (fun _ _ => rfl) fun _ _ => rfl))
      · omega
    · omega
  · rfl
theorem turn_ro (h : OrdJ f g Q W) (t : Int) : (f.turn t 3).ro = f.ro := by
  unfold FL.turn SS.turn
  split
  · rename_i he
    unfold turnE at he
    split at he
    · rename_i hc
      split at he
      · omega
      · split at he
        · rename_i hs
          have hk : t.toNat < f.s.n := by omega
          have p0 := h.pcI _ hk (by omega) (by omega)
          exact funext (ro_all (f' := { f with s := f.s.set t.toNat 3 (f.s.dl t.toNat) }) (k := t.toNat) ((roU (f := { f with s := f.s.set t.toNat 3 (f.s.dl t.toNat) }) (p := 0) (upd_same _ _ _) p0).trans (roH hs).symm) (ro_other (y := 3) (fun _ => rfl) (fun _ _ => rfl) fun _ _ => rfl))
        · omega
    · omega
  · rfl
theorem probe_id (h : OrdJ f g Q W) (t : Int) : f.probe t = f := by
  unfold FL.probe SS.probe
  rw [if_neg (by rw [h.np]; decide)]
theorem quelen (h : OrdJ f g Q W) (c : Nat) : (que f.cN g Q W c).length ≤ 8 := by
  obtain ⟨P, F, k⟩ := h.cor
  have hn : (rest g Q).Nodup := by
    cases g with
    | none => exact k.nq
    | some t => exact List.Nodup.sublist (List.tail_sublist Q) k.nq
  have h1 : (que f.cN g Q W c).Nodup := by
    unfold que
    rw [List.nodup_append]
    exact ⟨List.Nodup.sublist List.filter_sublist hn, k.nw c, fun a ha b hb q => (k.mw c b hb).2.2.1 (q ▸ rest_mem (List.mem_filter.1 ha).1)⟩
  have h2 := List.Nodup.length_le_of_subset (l₂ := List.range f.s.n) h1 fun x hx => by
    unfold que at hx
    rcases List.mem_append.1 hx with hx | hx
    · exact List.mem_range.2 (k.ql x (rest_mem (List.mem_filter.1 hx).1))
    · exact List.mem_range.2 (k.wl c x hx).1
  rw [List.length_range] at h2
  have := h.n8
  omega
theorem one (h : OrdJ f g Q W) {j k : Nat} (hj : j < f.s.n) (hk : k < f.s.n) (ej : f.s.st j = 2) (ek : f.s.st k = 2) : j = k := by
  obtain ⟨P, F, c⟩ := h.cor
  have w1 := c.rh j hj _ (roH ej)
  have w2 := c.rh k hk _ (roH ek)
  rw [w1] at w2
  simpa using w2
end OrdJ

/-! ### what holds of the lock, and who leads -/
def OrdI (f : FL) (R : List Nat) : Prop := ∃ g Q W, OrdJ f g Q W ∧ R = row f.ro g Q
namespace OrdI
variable {f : FL} {R : List Nat} {L : Lp}
theorem lock (h : OrdI f R) (t d : Int) : OrdI (f.lock t d) R := by obtain ⟨g, Q, W, h, e⟩ := h; exact ⟨g, Q, W, h.lock t d, by rw [h.lock_ro]; exact e⟩
theorem unlock (h : OrdI f R) (t : Int) : OrdI (f.turn t 3) R := by obtain ⟨g, Q, W, h, e⟩ := h; exact ⟨g, Q, W, h.turn t, by rw [h.turn_ro]; exact e⟩
theorem probe (h : OrdI f R) (t : Int) : OrdI (f.probe t) R := by obtain ⟨g, Q, W, h, e⟩ := h; exact ⟨g, Q, W, h.probe t, by rw [h.probe_id]; exact e⟩
theorem step (h : OrdI f R) (h1 : L.a1 = 0) (h2 : L.a2 = 1) (t : Int) : ∃ R', OrdI (f.step L t t) R' ∧ (f.step L t t).ps.D.length ≤ f.ps.D.length + 1 ∧ ((∃ k : Nat, t = k ∧ OrdJ.StepQ R k (f.did L t t) R') ∨ (f.did L t t = Dd.no ∧ R' = R)) := by
  obtain ⟨g, Q, W, h, rfl⟩ := h
  rcases h.step h1 h2 t with ⟨k, g', Q', W', hk, rfl, a, b, _, c, _⟩ | ⟨a, b⟩
  · exact ⟨_, ⟨g', Q', W', a, rfl⟩, b, .inl ⟨k, rfl, c⟩⟩
  · rw [a, b]
    exact ⟨_, ⟨g, Q, W, h, rfl⟩, Nat.le_succ _, .inr ⟨rfl, rfl⟩⟩
theorem n8 (h : OrdI f R) : f.s.n ≤ 8 := by obtain ⟨g, Q, W, h, _⟩ := h; exact h.n8
theorem len (h : OrdI f R) : R.length ≤ 8 := by
  obtain ⟨g, Q, W, h, rfl⟩ := h
  obtain ⟨P, F, k⟩ := h.cor
  have hn : (rest g Q).Nodup := by
    cases g with
    | none => exact k.nq
    | some t => exact List.Nodup.sublist (List.tail_sublist Q) k.nq
  have h2 := List.Nodup.length_le_of_subset (l₂ := List.range f.s.n) (l₁ := row f.ro g Q) (List.Nodup.sublist List.filter_sublist hn) fun x hx => List.mem_range.2 (k.ql x (OrdJ.rest_mem (List.mem_filter.1 hx).1))
  rw [List.length_range] at h2
  have := h.n8
  omega
theorem one (h : OrdI f R) {j k : Nat} (hj : j < f.s.n) (hk : k < f.s.n) (ej : f.s.st j = 2) (ek : f.s.st k = 2) : j = k := by
  obtain ⟨g, Q, W, h, _⟩ := h
  exact h.one hj hk ej ek
theorem lenW (h : OrdI f R) : f.ps.ws.length ≤ 4096 := by
  obtain ⟨g, Q, W, h, _⟩ := h
  have := h.n8
  rw [h.len]
  omega
end OrdI
end Go.Proofs.YteacdcdjdbobnaaGreat
