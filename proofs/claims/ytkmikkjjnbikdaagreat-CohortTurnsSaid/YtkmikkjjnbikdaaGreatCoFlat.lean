/- A ticket lock whose words lie anywhere among a port's, stepped by whatever thread: what holds of it at all times, and its queue; no walk. -/
import Derived.Test.YtkmikkjjnbikdaaGreatCoProj
import Derived.Test.YtkmikkjjnbikdaaGreatSeatNew
import Derived.Test.YtkmikkjjnbikdaaGreatPlanPort
import Derived.Test.YtkmikkjjnbikdaaGreatCoVia
namespace Go.Proofs.YtkmikkjjnbikdaaGreat.Kf
open Go.RowKit
set_option linter.unusedVariables false
set_option maxRecDepth 100000

/-! ### plain -/

/-- a lock with its port: its seats, each context's number, has it drawn one, the port -/
structure FL where
  s : SS
  num : Nat → Int
  dr : Nat → Bool
  ps : PSta
/-- where a lock lies: its struct, its seats' struct and contexts, its tickets; its words' addresses; its port's place and homes -/
structure Lp where
  lb : Nat
  p : Nat
  b : Nat
  tb : Nat
  a1 : Int
  a2 : Int
  q : Place
  hs : List Int

def FL.acq (f : FL) (L : Lp) (t : Nat) (u : Int) : FL := if f.dr t = true then { f with ps := doS f.ps u 1 L.a2 0 0 } else { f with num := upd f.num t (tellS f.ps u 5 L.a1), dr := upd f.dr t true, ps := doS f.ps u 5 L.a1 0 1 }
def FL.acqD (f : FL) (L : Lp) (t : Nat) (u : Int) : Dd := if f.dr t = true then (if tellS f.ps u 1 L.a2 = f.num t then ⟨1, false, false, false⟩ else Dd.no) else ⟨0, true, false, false⟩
def FL.rel (f : FL) (L : Lp) (t : Nat) (u : Int) : FL := { f with num := upd f.num t 0, dr := upd f.dr t false, ps := doS f.ps u 2 L.a2 0 ((f.num t + 1) % 4294967296) }
def FL.ask (f : FL) (L : Lp) (t : Nat) (u : Int) : FL := { f with ps := doS f.ps u 1 L.a1 0 0 }
def FL.askD (f : FL) (L : Lp) (t : Nat) (u : Int) : Dd := if tellS f.ps u 1 L.a1 = (f.num t + 1) % 4294967296 then ⟨4, false, false, false⟩ else ⟨5, false, false, false⟩
/-- behind the access of a step, its event still to come -/
def FL.mid (f : FL) (L : Lp) (t u : Int) : FL := if 0 ≤ t ∧ t < f.s.n then (if f.s.st t.toNat = 1 then f.acq L t.toNat u else if f.s.st t.toNat = 3 then f.rel L t.toNat u else if f.s.st t.toNat = 4 then f.ask L t.toNat u else f) else f
def FL.did (f : FL) (L : Lp) (t u : Int) : Dd := if 0 ≤ t ∧ t < f.s.n then (if f.s.st t.toNat = 1 then f.acqD L t.toNat u else if f.s.st t.toNat = 3 then ⟨3, false, false, false⟩ else if f.s.st t.toNat = 4 then f.askD L t.toNat u else Dd.no) else Dd.no
def FL.step (f : FL) (L : Lp) (t u : Int) : FL := { f.mid L t u with s := f.s.fin t (f.did L t u).ev }
def FL.lock (f : FL) (t d : Int) : FL := { f with s := f.s.lock t d }
def FL.turn (f : FL) (t x : Int) : FL := { f with s := f.s.turn t x }
def FL.probe (f : FL) (t : Int) : FL := { f with s := f.s.probe t }

theorem FL.acq_s (f : FL) (L : Lp) (t : Nat) (u : Int) : (f.acq L t u).s = f.s := by unfold FL.acq; split <;> rfl
theorem FL.mid_s (f : FL) (L : Lp) (t u : Int) : (f.mid L t u).s = f.s := by
  unfold FL.mid
  repeat' split
  · exact f.acq_s L _ u
  all_goals rfl

end Go.Proofs.YtkmikkjjnbikdaaGreat.Kf
namespace Go.Proofs.YtkmikkjjnbikdaaGreat.Kf
set_option linter.unusedVariables false
set_option maxRecDepth 100000

/-! ### the two words -/
theorem do_add {ps : PSta} {nx ow : Int} {k : Nat} (h : ps.ws = [nx, ow]) (hk : k < ps.ac.length) :
    tellS ps k 5 0 = nx ∧ (doS ps k 5 0 0 1).ws = [(nx + 1) % 4294967296, ow] ∧ (doS ps k 5 0 0 1).ac.length = ps.ac.length ∧ (doS ps k 5 0 0 1).D.length = ps.D.length + 1 := by
  have ho : okS ps k 5 0 = true := by simp [okS, okT, h]; omega
  refine ⟨?_, ?_, ?_, ?_⟩
  · unfold tellS; rw [ho]; simp [tellI, loadI, h]
  · unfold doS; rw [ho]; simp [doL, addL, storeL, loadI, h]
  · unfold doS; rw [ho]; simp [touchS, bump_len]
  · unfold doS; rw [ho]; simp [touchS]
theorem do_load {ps : PSta} {nx ow : Int} {k : Nat} (h : ps.ws = [nx, ow]) (hk : k < ps.ac.length) (a : Int) (ha : a = 0 ∨ a = 1) :
    tellS ps k 1 a = (if a = 0 then nx else ow) ∧ (doS ps k 1 a 0 0).ws = [nx, ow] ∧ (doS ps k 1 a 0 0).ac.length = ps.ac.length ∧ (doS ps k 1 a 0 0).D.length = ps.D.length + 1 := by
  have ho : okS ps k 1 a = true := by rcases ha with rfl | rfl <;> (simp [okS, okT, h]; omega)
  refine ⟨?_, ?_, ?_, ?_⟩
  · unfold tellS; rw [ho]; rcases ha with rfl | rfl <;> simp [tellI, loadI, h]
  · unfold doS; rw [ho]; simp [doL, h]
  · unfold doS; rw [ho]; simp [touchS, bump_len]
  · unfold doS; rw [ho]; simp [touchS]
theorem do_store {ps : PSta} {nx ow v : Int} {k : Nat} (h : ps.ws = [nx, ow]) (hk : k < ps.ac.length) :
    (doS ps k 2 1 0 v).ws = [nx, v] ∧ (doS ps k 2 1 0 v).ac.length = ps.ac.length ∧ (doS ps k 2 1 0 v).D.length = ps.D.length + 1 := by
  have ho : okS ps k 2 1 = true := by simp [okS, okT, h]; omega
  refine ⟨?_, ?_, ?_⟩
  · unfold doS; rw [ho]; simp [doL, storeL, h]
  · unfold doS; rw [ho]; simp [touchS, bump_len]
  · unfold doS; rw [ho]; simp [touchS]

theorem fin_none {s : SS} {k : Nat} {ev : Int} (h : behindI (s.st k) ev = none) : s.fin k ev = s := by
  unfold SS.fin endO
  split
  · rename_i y hy
    split at hy
    · rw [Int.toNat_natCast, h] at hy; cases hy
    · cases hy
  · rfl
theorem fin_some {s : SS} {k : Nat} {ev y : Int} (hk : k < s.n) (h : behindI (s.st k) ev = some y) : s.fin k ev = s.set k y 0 := by
  have e : endO s k ev = some y := by unfold endO; rw [if_pos (by omega), Int.toNat_natCast, h]
  unfold SS.fin
  rw [e, Int.toNat_natCast]

/-! ### the queue -/
structure OrdJ (f : FL) (g : Option Nat) (W : List Nat) (nx ow : Int) : Prop where
  n8 : f.s.n ≤ 8
  ws : f.ps.ws = [nx, ow]
  ac : f.ps.ac.length = f.s.n
  rng : 0 ≤ ow ∧ ow < 4294967296
  nodup : (g.toList ++ W).Nodup
  lt : ∀ k ∈ g.toList ++ W, k < f.s.n
  num : ∀ (i k : Nat), (g.toList ++ W)[i]? = some k → f.num k = (ow + i) % 4294967296
  nxt : nx = (ow + (g.toList ++ W).length) % 4294967296
  dr : ∀ k, k < f.s.n → (f.dr k = true ↔ k ∈ g.toList ++ W)
  stg : ∀ k, g = some k → f.s.st k = 2 ∨ f.s.st k = 3 ∨ f.s.st k = 4
  stw : ∀ k ∈ W, f.s.st k = 1
  sto : ∀ k, k < f.s.n → k ∉ g.toList ++ W → f.s.st k = 0 ∨ f.s.st k = 1
namespace OrdJ
variable {f : FL} {g : Option Nat} {W : List Nat} {nx ow : Int} {L : Lp}
theorem len (h : OrdJ f g W nx ow) : (g.toList ++ W).length ≤ 8 := by
  have h1 : (g.toList ++ W).length ≤ (List.range f.s.n).length := List.Nodup.length_le_of_subset h.nodup fun k hk => List.mem_range.2 (h.lt k hk)
  rw [List.length_range] at h1
  have := h.n8
  omega
/-- of whom is what: by what a context does -/
theorem held (h : OrdJ f g W nx ow) {k : Nat} (hk : k < f.s.n) (hs : f.s.st k = 2 ∨ f.s.st k = 3 ∨ f.s.st k = 4) : g = some k := by
  by_cases hm : k ∈ g.toList ++ W
  · rcases List.mem_append.1 hm with hm | hm
    · simpa using hm
    · have := h.stw k hm; omega
  · have := h.sto k hk hm; omega
theorem idle (h : OrdJ f g W nx ow) {k : Nat} (hk : k < f.s.n) (hs : f.s.st k = 0) : k ∉ g.toList ++ W := fun hm => by
  rcases List.mem_append.1 hm with hm | hm
  · have := h.stg k (by simpa using hm); omega
  · have := h.stw k hm; omega
/-- what a context does becomes something that its place allows -/
theorem stS (h : OrdJ f g W nx ow) (k : Nat) (x d : Int) (h0 : k ∉ g.toList ++ W → x = 0 ∨ x = 1) (h1 : k ∈ W → x = 1) (h2 : g = some k → x = 2 ∨ x = 3 ∨ x = 4) : OrdJ { f with s := f.s.set k x d } g W nx ow := by
  refine ⟨h.n8, h.ws, h.ac, h.rng, h.nodup, h.lt, h.num, h.nxt, h.dr, fun j hj => ?_, fun j hj => ?_, fun j hj hn => ?_⟩
  · show upd f.s.st k x j = 2 ∨ upd f.s.st k x j = 3 ∨ upd f.s.st k x j = 4
    by_cases e : j = k
    · subst e; rw [upd_same]; exact h2 hj
    · rw [upd_other _ _ e]; exact h.stg j hj
  · show upd f.s.st k x j = 1
    by_cases e : j = k
    · subst e; rw [upd_same]; exact h1 hj
    · rw [upd_other _ _ e]; exact h.stw j hj
  · show upd f.s.st k x j = 0 ∨ upd f.s.st k x j = 1
    by_cases e : j = k
    · subst e; rw [upd_same]; exact h0 hn
    · rw [upd_other _ _ e]; exact h.sto j hj hn
theorem lock (h : OrdJ f g W nx ow) (t d : Int) : OrdJ (f.lock t d) g W nx ow := by
  unfold FL.lock SS.lock
  split
  · rename_i he
    unfold lockE at he
    split at he
    · rename_i hc
      split at he
      · rename_i hs
        have hk : t.toNat < f.s.n := by omega
        have hn := h.idle hk hs
        exact h.stS _ _ _ (fun _ => .inr rfl) (fun _ => rfl) fun e => absurd (List.mem_append_left W (by rw [e]; simp)) hn
      · omega
    · omega
  · exact h
theorem turn (h : OrdJ f g W nx ow) (t x : Int) (hx : x = 3 ∨ x = 4) : OrdJ (f.turn t x) g W nx ow := by
  unfold FL.turn SS.turn
  split
  · rename_i he
    unfold turnE at he
    split at he
    · rename_i hc
      split at he
      · omega
      · split at he
        · rename_i hs
          have hk : t.toNat < f.s.n := by omega
          have hg := h.held hk (.inl hs)
          refine h.stS _ _ _ (fun hn => absurd (List.mem_append_left W (by rw [hg]; simp)) hn) (fun hw => ?_) fun _ => .inr hx
          have := h.stw _ hw
          omega
        · omega
    · omega
  · exact h
theorem probe (h : OrdJ f g W nx ow) (t : Int) : OrdJ (f.probe t) g W nx ow := by
  unfold FL.probe SS.probe
  split
  · exact h.turn t 4 (.inr rfl)
  · exact h
/-- the port's state turns, the words stay -/
theorem psS (h : OrdJ f g W nx ow) {ps : PSta} (hw : ps.ws = [nx, ow]) (ha : ps.ac.length = f.ps.ac.length) : OrdJ { f with ps := ps } g W nx ow :=
  ⟨h.n8, hw, ha.trans h.ac, h.rng, h.nodup, h.lt, h.num, h.nxt, h.dr, h.stg, h.stw, h.sto⟩

/-- a number is drawn -/
theorem enq (h : OrdJ f g W nx ow) {k : Nat} (hk : k < f.s.n) (hs : f.s.st k = 1) (hd : f.dr k = false) {ps : PSta} (hw : ps.ws = [(nx + 1) % 4294967296, ow]) (ha : ps.ac.length = f.ps.ac.length) :
    OrdJ { f with num := upd f.num k nx, dr := upd f.dr k true, ps := ps } g (W ++ [k]) ((nx + 1) % 4294967296) ow := by
  have hn : k ∉ g.toList ++ W := fun e => by rw [(h.dr k hk).2 e] at hd; cases hd
  have hl := h.len
  refine ⟨h.n8, hw, ha.trans h.ac, h.rng, ?_, ?_, ?_, ?_, ?_, h.stg, ?_, ?_⟩
  · rw [← List.append_assoc, List.nodup_append]
    exact ⟨h.nodup, by simp, fun a h1 b h2 e => by rw [List.mem_singleton] at h2; subst e; subst h2; exact hn h1⟩
  · intro j hj
    rw [← List.append_assoc, List.mem_append, List.mem_singleton] at hj
    rcases hj with hj | rfl
    · exact h.lt j hj
    · exact hk
  · intro i j hj
    rw [← List.append_assoc] at hj
    show upd f.num k nx j = _
    by_cases hi : i < (g.toList ++ W).length
    · rw [List.getElem?_append_left hi] at hj
      have hm := List.mem_of_getElem? hj
      rw [upd_other _ _ (fun e => by subst e; exact hn hm)]
      exact h.num i j hj
    · rw [List.getElem?_append_right (by omega)] at hj
      have hi2 : i - (g.toList ++ W).length = 0 := by
        have := (List.getElem?_eq_some_iff.1 hj).1
        simpa using this
      rw [hi2] at hj
      obtain rfl : k = j := by simpa using hj
      rw [upd_same, h.nxt]
      congr 3
      omega
  · have e : ((g.toList ++ W) ++ [k]).length = (g.toList ++ W).length + 1 := by rw [List.length_append, List.length_singleton]
    rw [h.nxt, ← List.append_assoc, e]
    omega
  · intro j hj
    show upd f.dr k true j = true ↔ _
    rw [← List.append_assoc, List.mem_append, List.mem_singleton]
    by_cases e : j = k
    · subst e; rw [upd_same]; simp
    · rw [upd_other _ _ e, h.dr j hj]; simp [e]
  · intro j hj
    rw [List.mem_append, List.mem_singleton] at hj
    rcases hj with hj | rfl
    · exact h.stw j hj
    · exact hs
  · intro j hj hnj
    rw [← List.append_assoc, List.mem_append, not_or] at hnj
    exact h.sto j hj hnj.1
/-- who has the number that is served, and waits, is the first -/
theorem first (h : OrdJ f g W nx ow) {k : Nat} (hk : k < f.s.n) (hs : f.s.st k = 1) (hd : f.dr k = true) (he : ow = f.num k) : g = none ∧ ∃ W', W = k :: W' ∧ k ∉ W' := by
  have hm := (h.dr k hk).1 hd
  have hl := h.len
  have hr := h.rng
  obtain ⟨i, hi⟩ := List.getElem?_of_mem hm
  have hlt := (List.getElem?_eq_some_iff.1 hi).1
  have := h.num i k hi
  have i0 : i = 0 := by omega
  subst i0
  have hnd := h.nodup
  cases g with
  | none =>
    refine ⟨rfl, ?_⟩
    cases W with
    | nil => simp at hi
    | cons a r =>
      obtain rfl : a = k := by simpa using hi
      exact ⟨r, rfl, by simpa using (List.nodup_cons.1 hnd).1⟩
  | some a =>
    obtain rfl : a = k := by simpa using hi
    have := h.stg a rfl
    omega
theorem grant {k : Nat} (h : OrdJ f none (k :: W) nx ow) {ps : PSta} (hw : ps.ws = [nx, ow]) (ha : ps.ac.length = f.ps.ac.length) (d : Int) :
    OrdJ { f with s := f.s.set k 2 d, ps := ps } (some k) W nx ow := by
  refine ⟨h.n8, hw, ha.trans h.ac, h.rng, h.nodup, h.lt, h.num, h.nxt, h.dr, fun j hj => ?_, fun j hj => ?_, fun j hj hn => ?_⟩
  · obtain rfl : k = j := by simpa using hj
    exact .inl (upd_same _ _ _)
  · show upd f.s.st k 2 j = 1
    rw [upd_other _ _ (fun e => by subst e; exact (List.nodup_cons.1 h.nodup).1 hj)]
    exact h.stw j (List.mem_cons_of_mem _ hj)
  · show upd f.s.st k 2 j = 0 ∨ upd f.s.st k 2 j = 1
    rw [upd_other _ _ (fun e => by subst e; exact hn (by simp))]
    exact h.sto j hj hn
/-- the lock is given back -/
theorem free {k : Nat} (h : OrdJ f (some k) W nx ow) {ps : PSta} (hw : ps.ws = [nx, (f.num k + 1) % 4294967296]) (ha : ps.ac.length = f.ps.ac.length) (d : Int) :
    OrdJ { f with s := f.s.set k 0 d, num := upd f.num k 0, dr := upd f.dr k false, ps := ps } none W nx ((f.num k + 1) % 4294967296) := by
  have hn0 : f.num k = ow := by
    have := h.num 0 k rfl
    have := h.rng
    omega
  have hnW : k ∉ W := (List.nodup_cons.1 h.nodup).1
  rw [hn0] at hw ⊢
  have hl := h.len
  simp only [Option.toList_some, List.length_append, List.length_singleton] at hl
  refine ⟨h.n8, hw, ha.trans h.ac, by omega, (List.nodup_cons.1 h.nodup).2, fun j hj => h.lt j (List.mem_append_right _ hj), fun i j hj => ?_, ?_, fun j hj => ?_, fun j hj => (by cases hj), fun j hj => ?_, fun j hj hn => ?_⟩
  · show upd f.num k 0 j = _
    have hm : j ∈ W := List.mem_of_getElem? hj
    rw [upd_other _ _ (fun e => by subst e; exact hnW hm), h.num (i + 1) j (by simpa using hj)]
    omega
  · rw [h.nxt]
    simp only [Option.toList_some, Option.toList_none, List.length_append, List.length_singleton, List.length_nil]
    omega
  · show upd f.dr k false j = true ↔ _
    by_cases e : j = k
    · subst e; rw [upd_same]; simp [hnW]
    · rw [upd_other _ _ e, h.dr j hj]; simp [e]
  · show upd f.s.st k 0 j = 1
    rw [upd_other _ _ (fun e => by subst e; exact hnW hj)]
    exact h.stw j hj
  · show upd f.s.st k 0 j = 0 ∨ upd f.s.st k 0 j = 1
    by_cases e : j = k
    · subst e; rw [upd_same]; exact .inl rfl
    · rw [upd_other _ _ e]
      exact h.sto j hj (by simpa [e] using hn)
/-- a step: what comes of the queue -/
inductive StepQ (W : List Nat) (t : Int) (d : Dd) (W' : List Nat) : Prop where
  | same (h0 : d.enq = false) (h1 : d.ev ≠ 1) (h2 : d.ev ≠ 2) (e : W' = W) : StepQ W t d W'
  | enq (hd : d = ⟨0, true, false, false⟩) (k : Nat) (ht : t = k) (e : W' = W ++ [k]) : StepQ W t d W'
  | grant (hd : d = ⟨1, false, false, false⟩) (k : Nat) (ht : t = k) (e : W = k :: W') (hn : k ∉ W') : StepQ W t d W'
theorem step (h : OrdJ f g W nx ow) (h1 : L.a1 = 0) (h2 : L.a2 = 1) (t : Int) :
    ∃ g' W' nx' ow', OrdJ (f.step L t t) g' W' nx' ow' ∧ (f.step L t t).ps.D.length ≤ f.ps.D.length + 1 ∧ StepQ W t (f.did L t t) W' := by
  by_cases ht : 0 ≤ t ∧ t < f.s.n
  · obtain ⟨k, rfl⟩ := Int.eq_ofNat_of_zero_le ht.1
    have hk : k < f.s.n := by omega
    have hk2 : k < f.ps.ac.length := by rw [h.ac]; exact hk
    unfold FL.step FL.mid FL.did
    rw [if_pos ht, if_pos ht, Int.toNat_natCast]
    by_cases s1 : f.s.st k = 1
    · rw [if_pos s1, if_pos s1]
      unfold FL.acq FL.acqD
      rw [h1, h2]
      cases hd : f.dr k
      · obtain ⟨e1, e2, e3, e4⟩ := do_add h.ws hk2
        have hj := h.enq hk s1 hd e2 e3
        rw [if_neg (by decide), if_neg (by decide)]
        refine ⟨g, W ++ [k], (nx + 1) % 4294967296, ow, ?_, Nat.le_of_eq e4, .enq rfl k rfl rfl⟩
        rw [e1]
        show OrdJ { f with s := f.s.fin k 0, num := _, dr := _, ps := _ } g _ _ _
        rw [fin_none (by rw [s1]; rfl)]
        exact hj
      · obtain ⟨e1, e2, e3, e4⟩ := do_load h.ws hk2 1 (.inr rfl)
        rw [if_neg (by decide)] at e1
        rw [if_pos rfl, if_pos rfl, e1]
        by_cases he : ow = f.num k
        · obtain ⟨rfl, W', rfl, hn⟩ := h.first hk s1 hd he
          rw [if_pos he]
          refine ⟨some k, W', nx, ow, ?_, Nat.le_of_eq e4, .grant rfl k rfl rfl hn⟩
          show OrdJ { f with s := f.s.fin k 1, ps := _ } _ _ _ _
          rw [fin_some hk (by rw [s1]; rfl : behindI (f.s.st k) 1 = some 2)]
          exact h.grant e2 e3 0
        · rw [if_neg he]
          refine ⟨g, W, nx, ow, ?_, Nat.le_of_eq e4, .same rfl (by decide) (by decide) rfl⟩
          show OrdJ { f with s := f.s.fin k 0, ps := _ } _ _ _ _
          rw [fin_none (by rw [s1]; rfl)]
          exact h.psS e2 e3
    · rw [if_neg s1, if_neg s1]
      by_cases s3 : f.s.st k = 3
      · rw [if_pos s3, if_pos s3]
        unfold FL.rel
        rw [h2]
        obtain rfl := h.held hk (.inr (.inl s3))
        obtain ⟨e2, e3, e4⟩ := do_store (v := (f.num k + 1) % 4294967296) h.ws hk2
        refine ⟨none, W, nx, (f.num k + 1) % 4294967296, ?_, Nat.le_of_eq e4, .same rfl (by decide) (by decide) rfl⟩
        show OrdJ { f with s := f.s.fin k 3, num := _, dr := _, ps := _ } _ _ _ _
        rw [fin_some hk (by rw [s3]; rfl : behindI (f.s.st k) 3 = some 0)]
        exact h.free e2 e3 0
      · rw [if_neg s3, if_neg s3]
        by_cases s4 : f.s.st k = 4
        · rw [if_pos s4, if_pos s4]
          unfold FL.ask FL.askD
          rw [h1]
          have hg := h.held hk (.inr (.inr s4))
          obtain ⟨e1, e2, e3, e4⟩ := do_load h.ws hk2 0 (.inl rfl)
          have hm : k ∈ g.toList ++ W := List.mem_append_left W (by rw [hg]; simp)
          have hnW : k ∉ W := fun hw => by have := h.stw k hw; omega
          have key : ∀ ev, ev = 4 ∨ ev = 5 → OrdJ { f with s := f.s.fin k ev, ps := doS f.ps k 1 0 0 0 } g W nx ow := fun ev hev => by
            rw [fin_some hk (by rw [s4]; rcases hev with rfl | rfl <;> rfl : behindI (f.s.st k) ev = some 2)]
            exact (h.psS e2 e3).stS k 2 0 (fun e => absurd hm e) (fun e => absurd e hnW) fun _ => .inl rfl
          split
          · exact ⟨g, W, nx, ow, key 4 (.inl rfl), Nat.le_of_eq e4, .same rfl (by decide) (by decide) rfl⟩
          · exact ⟨g, W, nx, ow, key 5 (.inr rfl), Nat.le_of_eq e4, .same rfl (by decide) (by decide) rfl⟩
        · rw [if_neg s4, if_neg s4]
          refine ⟨g, W, nx, ow, ?_, Nat.le_succ _, .same rfl (by decide) (by decide) rfl⟩
          have e : f.s.fin k Dd.no.ev = f.s := fin_none (by
            unfold behindI Dd.no
            rw [if_neg (by omega), if_neg (by omega), if_neg (by omega), if_neg (by omega)])
          show OrdJ { f with s := f.s.fin k Dd.no.ev } _ _ _ _
          rw [e]
          exact h
  · unfold FL.step FL.mid FL.did
    rw [if_neg ht, if_neg ht]
    refine ⟨g, W, nx, ow, ?_, Nat.le_succ _, .same rfl (by decide) (by decide) rfl⟩
    have e : f.s.fin t Dd.no.ev = f.s := by
      have e0 : endO f.s t Dd.no.ev = none := by unfold endO; rw [if_neg ht]
      unfold SS.fin
      rw [e0]
    show OrdJ { f with s := f.s.fin t Dd.no.ev } _ _ _ _
    rw [e]
    exact h
end OrdJ

/-! ### what holds of the lock and the law's queue -/
def OrdI (f : FL) (W : List Nat) : Prop := ∃ g nx ow, OrdJ f g W nx ow
namespace OrdI
variable {f : FL} {W : List Nat} {L : Lp}
theorem lock (h : OrdI f W) (t d : Int) : OrdI (f.lock t d) W := by obtain ⟨g, nx, ow, h⟩ := h; exact ⟨g, nx, ow, h.lock t d⟩
theorem unlock (h : OrdI f W) (t : Int) : OrdI (f.turn t 3) W := by obtain ⟨g, nx, ow, h⟩ := h; exact ⟨g, nx, ow, h.turn t 3 (.inl rfl)⟩
theorem probe (h : OrdI f W) (t : Int) : OrdI (f.probe t) W := by obtain ⟨g, nx, ow, h⟩ := h; exact ⟨g, nx, ow, h.probe t⟩
theorem step (h : OrdI f W) (h1 : L.a1 = 0) (h2 : L.a2 = 1) (t : Int) : ∃ W', OrdI (f.step L t t) W' ∧ (f.step L t t).ps.D.length ≤ f.ps.D.length + 1 ∧ OrdJ.StepQ W t (f.did L t t) W' := by
  obtain ⟨g, nx, ow, h⟩ := h
  obtain ⟨g', W', nx', ow', a, b, c⟩ := h.step h1 h2 t
  exact ⟨W', ⟨g', nx', ow', a⟩, b, c⟩
theorem n8 (h : OrdI f W) : f.s.n ≤ 8 := by obtain ⟨g, nx, ow, h⟩ := h; exact h.n8
theorem len (h : OrdI f W) : W.length ≤ 8 := by
  obtain ⟨g, nx, ow, h⟩ := h
  have := h.len
  rw [List.length_append] at this
  omega
theorem one (h : OrdI f W) {j k : Nat} (hj : j < f.s.n) (hk : k < f.s.n) (ej : f.s.st j = 2) (ek : f.s.st k = 2) : j = k := by
  obtain ⟨g, nx, ow, h⟩ := h
  have h1 := h.held hj (.inl ej)
  have h2 := h.held hk (.inl ek)
  rw [h1] at h2
  simpa using h2
theorem lenW (h : OrdI f W) : f.ps.ws.length ≤ 4096 := by obtain ⟨g, nx, ow, h⟩ := h; rw [h.ws]; simp
end OrdI
end Go.Proofs.YtkmikkjjnbikdaaGreat.Kf
namespace Go.Proofs.YtkmikkjjnbikdaaGreat.Kf
set_option linter.unusedVariables false
set_option maxRecDepth 100000

def FL.vw (f : FL) (o n m : Nat) : FL := { f with ps := f.ps.vw o n m }
def FL.nrm (f : FL) (m : Nat) : FL := { f with ps := f.ps.nrm m }
section
variable {f : FL} {L L0 : Lp} {o m k u : Nat}
theorem did_vw (h1 : L.a1 = (o : Int) + (0 : Nat)) (h2 : L.a2 = (o : Int) + (1 : Nat)) (z1 : L0.a1 = (0 : Nat)) (z2 : L0.a2 = (1 : Nat)) (hl : o + 2 ≤ f.ps.ws.length) (hu : u < f.ps.ac.length) (hm : k < m) :
    f.did L k u = (f.vw o 2 m).did L0 k k := by
  have t0 := fun K => tell_vw (v := k) (m := m) (n := 2) (i := 0) hu hm (by decide) hl K
  have t1 := fun K => tell_vw (v := k) (m := m) (n := 2) (i := 1) hu hm (by decide) hl K
  unfold FL.did FL.acqD FL.askD
  rw [h1, h2, z1, z2, t0, t1]
  rfl
theorem mid_vw (h1 : L.a1 = (o : Int) + (0 : Nat)) (h2 : L.a2 = (o : Int) + (1 : Nat)) (z1 : L0.a1 = (0 : Nat)) (z2 : L0.a2 = (1 : Nat)) (hl : o + 2 ≤ f.ps.ws.length) (hu : u < f.ps.ac.length) (hm : k < m) :
    (f.mid L k u).vw o 2 m = ((f.vw o 2 m).mid L0 k k).nrm m := by
  have t0 := fun K => tell_vw (v := k) (m := m) (n := 2) (i := 0) hu hm (by decide) hl K
  have d0 := fun K old x => do_vw (v := k) (m := m) (n := 2) (i := 0) hu hm (by decide) hl K old x
  have d1 := fun K old x => do_vw (v := k) (m := m) (n := 2) (i := 1) hu hm (by decide) hl K old x
  unfold FL.mid FL.acq FL.rel FL.ask
  rw [h1, h2, z1, z2, t0]
  show FL.vw (if 0 ≤ (k : Int) ∧ (k : Int) < f.s.n then _ else _) o 2 m = FL.nrm (if 0 ≤ (k : Int) ∧ (k : Int) < f.s.n then _ else _) m
  by_cases ht : 0 ≤ (k : Int) ∧ (k : Int) < f.s.n
  · rw [if_pos ht, if_pos ht]
    show FL.vw (if f.s.st (k : Int).toNat = 1 then _ else _) o 2 m = FL.nrm (if f.s.st (k : Int).toNat = 1 then _ else _) m
    by_cases s1 : f.s.st (k : Int).toNat = 1
    · rw [if_pos s1, if_pos s1]
      show FL.vw (if f.dr (k : Int).toNat = true then _ else _) o 2 m = FL.nrm (if f.dr (k : Int).toNat = true then _ else _) m
      by_cases hd : f.dr (k : Int).toNat = true
      · rw [if_pos hd, if_pos hd]
        unfold FL.vw FL.nrm
        dsimp only
        rw [d1]
      · rw [if_neg hd, if_neg hd]
        unfold FL.vw FL.nrm
        dsimp only
        rw [d0]
    · rw [if_neg s1, if_neg s1]
      show FL.vw (if f.s.st (k : Int).toNat = 3 then _ else _) o 2 m = FL.nrm (if f.s.st (k : Int).toNat = 3 then _ else _) m
      by_cases s3 : f.s.st (k : Int).toNat = 3
      · rw [if_pos s3, if_pos s3]
        unfold FL.vw FL.nrm
        dsimp only
        rw [d1]
      · rw [if_neg s3, if_neg s3]
        show FL.vw (if f.s.st (k : Int).toNat = 4 then _ else _) o 2 m = FL.nrm (if f.s.st (k : Int).toNat = 4 then _ else _) m
        by_cases s4 : f.s.st (k : Int).toNat = 4
        · rw [if_pos s4, if_pos s4]
          unfold FL.vw FL.nrm
          dsimp only
          rw [d0]
        · rw [if_neg s4, if_neg s4]
          rfl
  · rw [if_neg ht, if_neg ht]
    rfl
theorem step_vw (h1 : L.a1 = (o : Int) + (0 : Nat)) (h2 : L.a2 = (o : Int) + (1 : Nat)) (z1 : L0.a1 = (0 : Nat)) (z2 : L0.a2 = (1 : Nat)) (hl : o + 2 ≤ f.ps.ws.length) (hu : u < f.ps.ac.length) (hm : k < m) :
    (f.step L k u).vw o 2 m = ((f.vw o 2 m).step L0 k k).nrm m := by
  have e := mid_vw h1 h2 z1 z2 hl hu hm
  have d := did_vw h1 h2 z1 z2 hl hu hm
  unfold FL.step
  rw [d]
  have : ({ f.mid L k u with s := f.s.fin k ((f.vw o 2 m).did L0 k k).ev } : FL).vw o 2 m = { (f.mid L k u).vw o 2 m with s := f.s.fin k ((f.vw o 2 m).did L0 k k).ev } := rfl
  rw [this, e]
  rfl
/-- where its words lie otherwise, nothing turns -/
theorem step_off (h1 : L.a1 = (o : Int) + (0 : Nat)) (h2 : L.a2 = (o : Int) + (1 : Nat)) {o' n' : Nat} (ha : o + 2 ≤ o' ∨ o' + n' ≤ o) : sub (f.step L k u).ps.ws o' n' = sub f.ps.ws o' n' := by
  have key : ∀ (i : Nat) K old x, i < 2 → sub (doS f.ps u K ((o : Int) + i) old x).ws o' n' = sub f.ps.ws o' n' := fun i K old x hi => do_off K old x (by omega)
  show sub (f.mid L k u).ps.ws o' n' = _
  unfold FL.mid FL.acq FL.rel FL.ask
  rw [h1, h2]
  repeat' split
  all_goals first | exact key 0 _ _ _ (by decide) | exact key 1 _ _ _ (by decide) | rfl
theorem step_len (t u : Int) : (f.step L t u).ps.ws.length = f.ps.ws.length ∧ (f.step L t u).ps.ac.length = f.ps.ac.length := by
  show (f.mid L t u).ps.ws.length = _ ∧ (f.mid L t u).ps.ac.length = _
  unfold FL.mid FL.acq FL.rel FL.ask doS
  repeat' split
  all_goals first | exact ⟨rfl, rfl⟩ | (dsimp only [touchS]; exact ⟨doL_len _ _ _ _ _, bump_len _ _ _⟩)
theorem step_n (t u : Int) : (f.step L t u).s.n = f.s.n := SS.fin_n _ _ _
end
/-- its words at o; who has it, who waits -/
def In (f : FL) (o : Nat) (g : Option Nat) (W : List Nat) : Prop := o + 2 ≤ f.ps.ws.length ∧ ∃ nx ow, OrdJ (f.vw o 2 f.s.n) g W nx ow
namespace In
variable {f : FL} {o : Nat} {g : Option Nat} {W : List Nat} {L : Lp}
theorem lock (h : In f o g W) (t d : Int) : In (f.lock t d) o g W := by
  obtain ⟨hl, nx, ow, h⟩ := h
  refine ⟨hl, nx, ow, ?_⟩
  have e : (f.lock t d).vw o 2 (f.lock t d).s.n = (f.vw o 2 f.s.n).lock t d := by
    show (f.lock t d).vw o 2 (f.s.lock t d).n = _
    rw [SS.lock_n]; rfl
  rw [e]
  exact h.lock t d
theorem turn (h : In f o g W) (t x : Int) (hx : x = 3 ∨ x = 4) : In (f.turn t x) o g W := by
  obtain ⟨hl, nx, ow, h⟩ := h
  refine ⟨hl, nx, ow, ?_⟩
  have e : (f.turn t x).vw o 2 (f.turn t x).s.n = (f.vw o 2 f.s.n).turn t x := by
    show (f.turn t x).vw o 2 (f.s.turn t x).n = _
    rw [SS.turn_n]; rfl
  rw [e]
  exact h.turn t x hx
/-- what another one of the port's words' users does -/
theorem far (h : In f o g W) {ps : PSta} (hl : ps.ws.length = f.ps.ws.length) (hw : sub ps.ws o 2 = sub f.ps.ws o 2) : In { f with ps := ps } o g W := by
  obtain ⟨hl0, nx, ow, h⟩ := h
  refine ⟨by show o + 2 ≤ ps.ws.length; omega, nx, ow, ?_⟩
  have e : ({ f with ps := ps } : FL).vw o 2 f.s.n = f.vw o 2 f.s.n := by
    unfold FL.vw PSta.vw
    rw [hw]
  show OrdJ (({ f with ps := ps } : FL).vw o 2 f.s.n) g W nx ow
  rw [e]
  exact h
theorem step (h : In f o g W) (h1 : L.a1 = o) (h2 : L.a2 = (o : Int) + 1) {k u : Nat} (hk : k < f.s.n) (hu : u < f.ps.ac.length) :
    ∃ g' W', In (f.step L k u) o g' W' ∧ OrdJ.StepQ W k (f.did L k u) W' ∧ (∀ o' n', o + 2 ≤ o' ∨ o' + n' ≤ o → sub (f.step L k u).ps.ws o' n' = sub f.ps.ws o' n') := by
  obtain ⟨hl, nx, ow, h⟩ := h
  have q1 : L.a1 = (o : Int) + (0 : Nat) := by rw [h1]; omega
  have q2 : L.a2 = (o : Int) + (1 : Nat) := by rw [h2]; omega
  obtain ⟨L0, z1, z2⟩ : ∃ L0 : Lp, L0.a1 = 0 ∧ L0.a2 = 1 := ⟨{ L with a1 := 0, a2 := 1 }, rfl, rfl⟩
  have e := step_vw q1 q2 (by rw [z1]; rfl : L0.a1 = (0 : Nat)) (by rw [z2]; rfl : L0.a2 = (1 : Nat)) hl hu hk
  have d := did_vw q1 q2 (by rw [z1]; rfl : L0.a1 = (0 : Nat)) (by rw [z2]; rfl : L0.a2 = (1 : Nat)) hl hu hk
  obtain ⟨g', W', nx', ow', hJ, _, hQ⟩ := h.step z1 z2 (k : Int)
  refine ⟨g', W', ⟨by rw [(step_len (f := f) (L := L) k u).1]; exact hl, nx', ow', ?_⟩, ?_, fun o' n' ha => step_off q1 q2 ha⟩
  · rw [step_n, e]
    have hac := hJ.ac
    exact hJ.psS hJ.ws (by rw [hac]; show (List.replicate f.s.n 0).length = _; rw [List.length_replicate, step_n]; rfl)
  · rw [d]; exact hQ
/-- Company is told only where somebody waits -/
theorem company (h : In f o g W) (h1 : L.a1 = o) (h2 : L.a2 = (o : Int) + 1) {k u : Nat} (hk : k < f.s.n) (hu : u < f.ps.ac.length) (hs : f.s.st k = 4) : ((f.did L k u).ev = 4 ∧ W = []) ∨ ((f.did L k u).ev = 5 ∧ W ≠ []) := by
  obtain ⟨hl, nx, ow, h⟩ := h
  have q1 : L.a1 = (o : Int) + (0 : Nat) := by rw [h1]; omega
  have q2 : L.a2 = (o : Int) + (1 : Nat) := by rw [h2]; omega
  obtain ⟨L0, z1, z2⟩ : ∃ L0 : Lp, L0.a1 = 0 ∧ L0.a2 = 1 := ⟨{ L with a1 := 0, a2 := 1 }, rfl, rfl⟩
  rw [did_vw q1 q2 (by rw [z1]; rfl : L0.a1 = (0 : Nat)) (by rw [z2]; rfl : L0.a2 = (1 : Nat)) hl hu hk]
  have hg : g = some k := h.held (k := k) hk (.inr (.inr hs))
  subst hg
  have ht : 0 ≤ (k : Int) ∧ (k : Int) < (f.vw o 2 f.s.n).s.n := by have : (f.vw o 2 f.s.n).s.n = f.s.n := rfl; omega
  have hac : k < (f.vw o 2 f.s.n).ps.ac.length := by rw [h.ac]; exact hk
  obtain ⟨e1, _⟩ := do_load h.ws hac 0 (.inl rfl)
  have hn := h.nxt
  have hm := h.num 0 k rfl
  have h8 := h.len
  have hr := h.rng
  have st4 : (f.vw o 2 f.s.n).s.st k = 4 := hs
  unfold FL.did
  rw [if_pos ht, Int.toNat_natCast, if_neg (by omega), if_neg (by omega), if_pos st4]
  unfold FL.askD
  rw [z1, e1, if_pos rfl, hm]
  simp only [Option.toList_some, List.length_append, List.length_singleton] at hn h8
  cases W with
  | nil =>
    left
    rw [if_pos (by simp at hn; omega)]
    exact ⟨rfl, rfl⟩
  | cons a W =>
    right
    rw [if_neg (by simp at hn h8; omega)]
    exact ⟨rfl, by simp⟩
end In
end Go.Proofs.YtkmikkjjnbikdaaGreat.Kf
