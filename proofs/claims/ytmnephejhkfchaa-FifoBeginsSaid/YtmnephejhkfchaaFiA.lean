/- The automaton of a lock that is first come, first served: what fits, what is taken, and what entries tell of it; no program is named. -/
import Derived.Test.YtmnephejhkfchaaEnt
namespace Go.Proofs.Ytmnephejhkfchaa
open Go.RowKit Go.BigFrame
set_option linter.unusedVariables false
set_option maxRecDepth 100000

/-- the automaton: 0 idle, 1 called, 2 queued, 3 holding, 4 leaving; the queue -/
structure FA where
  st : Nat → Nat
  q : List Nat
def FA.take (n : Nat) (x : FA) (e : Ent) : Option FA :=
  if e.lead = true ∨ ¬ (0 ≤ e.t ∧ e.t < n) then none
  else if e.k = 1 then (if x.st e.t.toNat = 0 then some ⟨upd x.st e.t.toNat 1, x.q⟩ else none)
  else if e.k = 2 then (if x.st e.t.toNat = 1 then some ⟨upd x.st e.t.toNat 2, x.q ++ [e.t.toNat]⟩ else none)
  else if e.k = 4 then (if x.st e.t.toNat = 2 ∧ x.q.head? = some e.t.toNat ∧ ∀ u, u < n → x.st u ≠ 3 then some ⟨upd x.st e.t.toNat 3, x.q.tail⟩ else none)
  else if e.k = 5 then (if x.st e.t.toNat = 1 ∨ x.st e.t.toNat = 2 then some ⟨upd x.st e.t.toNat 0, x.q.filter fun u => decide (u ≠ e.t.toNat)⟩ else none)
  else if e.k = 6 then (if x.st e.t.toNat = 3 then some ⟨upd x.st e.t.toNat 4, x.q⟩ else none)
  else if e.k = 7 then (if x.st e.t.toNat = 4 then some ⟨upd x.st e.t.toNat 0, x.q⟩ else none)
  else if e.k = 8 then (if x.st e.t.toNat = 1 then some ⟨upd x.st e.t.toNat 0, x.q⟩ else none)
  else none
def FA.run (n : Nat) : FA → List Ent → Option FA
  | x, [] => some x
  | x, e :: l => match x.take n e with
    | some y => FA.run n y l
    | none => none
theorem FA.run_app {n : Nat} {x y : FA} {l r : List Ent} (h : x.run n l = some y) : x.run n (l ++ r) = y.run n r := by
  induction l generalizing x with
  | nil => cases h; rfl
  | cons e l ih =>
    show (match x.take n e with | some y => FA.run n y (l ++ r) | none => none) = _
    have h' : (match x.take n e with | some y => FA.run n y l | none => none) = some y := h
    cases hz : x.take n e with
    | none => rw [hz] at h'; cases h'
    | some z => rw [hz] at h'; exact ih h'
/-- how many of some entries fit, one behind the other -/
def FA.chk (n : Nat) : FA → List Ent → Nat
  | _, [] => 0
  | x, e :: l => match x.take n e with
    | some y => FA.chk n y l + 1
    | none => 0
namespace FA
variable {n : Nat} {x y z : FA} {l : List Ent} {e : Ent}
theorem chk_some (h : x.take n e = some y) : x.chk n (e :: l) = y.chk n l + 1 := by rw [chk, h]
theorem chk_none (h : x.take n e = none) : x.chk n (e :: l) = 0 := by rw [chk, h]
theorem run_some (h : x.take n e = some y) : x.run n (e :: l) = y.run n l := by rw [run, h]
theorem run_none (h : x.take n e = none) : x.run n (e :: l) = none := by rw [run, h]
theorem chk_le (l : List Ent) (x : FA) : x.chk n l ≤ l.length := by
  induction l generalizing x with
  | nil => exact Nat.le_refl _
  | cons e l ih =>
    cases h : x.take n e with
    | none => rw [chk_none h]; exact Nat.zero_le _
    | some y => rw [chk_some h]; exact Nat.succ_le_succ (ih y)
theorem run_chk (l : List Ent) (x : FA) : ∃ y, x.run n (l.take (x.chk n l)) = some y := by
  induction l generalizing x with
  | nil => exact ⟨x, rfl⟩
  | cons e l ih =>
    cases h : x.take n e with
    | none => rw [chk_none h]; exact ⟨x, rfl⟩
    | some y => rw [chk_some h, List.take_succ_cons, run_some h]; exact ih y
theorem chk_at {i : Nat} : ∀ {l : List Ent} {x : FA}, x.run n (l.take i) = some y → l[i]? = some e → y.take n e = none → x.chk n l = i := by
  induction i with
  | zero =>
    intro l x h he hn
    cases l with
    | nil => cases he
    | cons e' l => cases he; cases h; exact chk_none hn
  | succ i ih =>
    intro l x h he hn
    cases l with
    | nil => cases he
    | cons e' l =>
      rw [List.take_succ_cons] at h
      cases hz : x.take n e' with
      | none => rw [run_none hz] at h; cases h
      | some z => rw [run_some hz] at h; rw [chk_some hz, ih h he hn]
theorem chk_all (h : x.run n l = some y) : x.chk n l = l.length := by
  induction l generalizing x with
  | nil => rfl
  | cons e l ih =>
    cases hz : x.take n e with
    | none => rw [run_none hz] at h; cases h
    | some z => rw [run_some hz] at h; rw [chk_some hz, ih h]; rfl
theorem chk_take (l : List Ent) (k : Nat) (x : FA) : x.chk n (l.take k) = min k (x.chk n l) := by
  induction l generalizing x k with
  | nil => rw [List.take_nil]; show 0 = min k 0; omega
  | cons e l ih =>
    cases k with
    | zero => show 0 = _; omega
    | succ k =>
      rw [List.take_succ_cons]
      cases h : x.take n e with
      | none => rw [chk_none h, chk_none h]; omega
      | some y => rw [chk_some h, chk_some h, ih]; omega
theorem run_step {i : Nat} (h : x.run n (l.take i) = some y) (he : l[i]? = some e) (hz : y.take n e = some z) : x.run n (l.take (i + 1)) = some z := by
  have ht : l.take (i + 1) = l.take i ++ [e] := by rw [List.take_add_one, he]; rfl
  rw [ht, run_app h, run_some hz]
  rfl
theorem run_pre (h : x.run n l = some y) (i : Nat) : ∃ z, x.run n (l.take i) = some z := by
  obtain ⟨z, hz⟩ := run_chk (n := n) (l.take i) x
  have h1 := chk_all h
  have h2 := chk_take (n := n) l i x
  rw [h1] at h2
  refine ⟨z, ?_⟩
  rw [h2, List.take_take] at hz
  rw [← hz]
  by_cases hi : i ≤ l.length
  · rw [show min (min i l.length) i = i by omega]
  · rw [show min (min i l.length) i = l.length by omega, List.take_of_length_le (by omega), List.take_of_length_le (Nat.le_refl _)]
/-- what holds of the automaton at any time -/
structure Ok (n : Nat) (x : FA) : Prop where
  nd : x.q.Nodup
  q : ∀ t, t ∈ x.q → t < n ∧ x.st t = 2
  st : ∀ t, x.st t ≤ 4
  out : ∀ t, n ≤ t → x.st t = 0
def new : FA := ⟨fun _ => 0, []⟩
theorem new_ok : new.Ok n := ⟨List.nodup_nil, fun t h => (by cases h), fun _ => Nat.zero_le _, fun _ _ => rfl⟩
theorem Ok.few (h : x.Ok n) : x.q.length ≤ n := by
  have h1 := h.nd
  have h2 : ∀ t, t ∈ x.q → t ∈ List.range n := fun t ht => List.mem_range.2 (h.q t ht).1
  have := h1.length_le_of_subset h2
  rwa [List.length_range] at this
/-- what an entry's thread does behind it -/
def nx (k : Int) : Nat := if k = 1 then 1 else if k = 2 then 2 else if k = 4 then 3 else if k = 6 then 4 else 0
/-- one goes on -/
def goOn (x : FA) (t c : Nat) : FA := ⟨upd x.st t c, (x.q.filter fun u => decide (u ≠ t)) ++ if c = 2 then [t] else []⟩
theorem filt_no {l : List Nat} {t : Nat} (h : t ∉ l) : (l.filter fun u => decide (u ≠ t)) = l := List.filter_eq_self.2 fun u hu => decide_eq_true fun e => h (e ▸ hu)
theorem filt_head {l : List Nat} {t : Nat} (hn : l.Nodup) (h : l.head? = some t) : (l.filter fun u => decide (u ≠ t)) = l.tail := by
  cases l with
  | nil => cases h
  | cons a l =>
    cases h
    rw [List.filter_cons_of_neg (by simp)]
    exact filt_no (List.nodup_cons.1 hn).1
/-- does an entry fit? -/
def fits (n : Nat) (x : FA) (e : Ent) : Prop := ¬ (e.lead = true ∨ ¬ (0 ≤ e.t ∧ e.t < n)) ∧
  ((e.k = 1 ∧ x.st e.t.toNat = 0) ∨ (e.k = 2 ∧ x.st e.t.toNat = 1) ∨ (e.k = 4 ∧ x.q.head? = some e.t.toNat ∧ ∀ u, u < n → x.st u ≠ 3) ∨ (e.k = 5 ∧ (x.st e.t.toNat = 1 ∨ x.st e.t.toNat = 2)) ∨
    (e.k = 6 ∧ x.st e.t.toNat = 3) ∨ (e.k = 7 ∧ x.st e.t.toNat = 4) ∨ (e.k = 8 ∧ x.st e.t.toNat = 1))
theorem take_fits (h : x.Ok n) (hf : x.fits n e) : x.take n e = some (x.goOn e.t.toNat (nx e.k)) := by
  obtain ⟨h0, hf⟩ := hf
  have hno : x.st e.t.toNat ≠ 2 → (x.q.filter fun u => decide (u ≠ e.t.toNat)) = x.q := fun h2 => filt_no fun hm => h2 (h.q _ hm).2
  unfold take goOn nx
  rw [if_neg h0]
  rcases hf with ⟨k, c⟩ | ⟨k, c⟩ | ⟨k, c, c'⟩ | ⟨k, c⟩ | ⟨k, c⟩ | ⟨k, c⟩ | ⟨k, c⟩
  · rw [if_pos k, if_pos c, if_pos k, hno (by omega), if_neg (by decide), List.append_nil]
  · rw [if_neg (by omega), if_pos k, if_pos c, if_neg (by omega), if_pos k, hno (by omega), if_pos rfl]
  · rw [if_neg (by omega), if_neg (by omega), if_pos k, if_pos ⟨(h.q _ (List.mem_of_mem_head? c)).2, c, c'⟩, if_neg (by omega), if_neg (by omega), if_pos k, filt_head h.nd c, if_neg (by decide), List.append_nil]
  · rw [if_neg (by omega), if_neg (by omega), if_neg (by omega), if_pos k, if_pos c, if_neg (by omega), if_neg (by omega), if_neg (by omega), if_neg (by omega), if_neg (by decide), List.append_nil]
  · rw [if_neg (by omega), if_neg (by omega), if_neg (by omega), if_neg (by omega), if_pos k, if_pos c, if_neg (by omega), if_neg (by omega), if_neg (by omega), if_pos k, hno (by omega), if_neg (by decide), List.append_nil]
  · rw [if_neg (by omega), if_neg (by omega), if_neg (by omega), if_neg (by omega), if_neg (by omega), if_pos k, if_pos c, if_neg (by omega), if_neg (by omega), if_neg (by omega), if_neg (by omega), hno (by omega), if_neg (by decide), List.append_nil]
  · rw [if_neg (by omega), if_neg (by omega), if_neg (by omega), if_neg (by omega), if_neg (by omega), if_neg (by omega), if_pos k, if_pos c, if_neg (by omega), if_neg (by omega), if_neg (by omega), if_neg (by omega), hno (by omega), if_neg (by decide), List.append_nil]
theorem take_not (hf : ¬ x.fits n e) : x.take n e = none := by
  cases h : x.take n e with
  | none => rfl
  | some y =>
    refine absurd ?_ hf
    unfold take at h
    split at h
    · cases h
    next h0 =>
    refine ⟨h0, ?_⟩
    split at h
    next k => split at h; exact .inl ⟨k, by assumption⟩; cases h
    split at h
    next k => split at h; exact .inr (.inl ⟨k, by assumption⟩); cases h
    split at h
    next k =>
      split at h
      next c => exact .inr (.inr (.inl ⟨k, c.2⟩))
      cases h
    split at h
    next k => split at h; exact .inr (.inr (.inr (.inl ⟨k, by assumption⟩))); cases h
    split at h
    next k => split at h; exact .inr (.inr (.inr (.inr (.inl ⟨k, by assumption⟩)))); cases h
    split at h
    next k => split at h; exact .inr (.inr (.inr (.inr (.inr (.inl ⟨k, by assumption⟩))))); cases h
    split at h
    next k => split at h; exact .inr (.inr (.inr (.inr (.inr (.inr ⟨k, by assumption⟩))))); cases h
    cases h
theorem take_some (h : x.Ok n) (ht : x.take n e = some y) : x.fits n e ∧ y = x.goOn e.t.toNat (nx e.k) := by
  by_cases hf : x.fits n e
  · rw [take_fits h hf] at ht
    exact ⟨hf, (Option.some.inj ht).symm⟩
  · rw [take_not hf] at ht; cases ht
theorem goOn_ok (h : x.Ok n) {t c : Nat} (ht : t < n) (hc : c ≤ 4) : (x.goOn t c).Ok n := by
  have hm : ∀ u, u ∈ (x.goOn t c).q ↔ (u ∈ x.q ∧ u ≠ t) ∨ (c = 2 ∧ u = t) := fun u => by
    show u ∈ (x.q.filter fun u => decide (u ≠ t)) ++ (if c = 2 then [t] else []) ↔ _
    rw [List.mem_append, List.mem_filter]
    by_cases h2 : c = 2
    · rw [if_pos h2]; simp [h2]
    · rw [if_neg h2]; simp [h2]
  refine ⟨?_, fun u hu => ?_, fun u => ?_, fun u hu => ?_⟩
  · show ((x.q.filter fun u => decide (u ≠ t)) ++ if c = 2 then [t] else []).Nodup
    have h1 : (x.q.filter fun u => decide (u ≠ t)).Nodup := h.nd.sublist List.filter_sublist
    by_cases h2 : c = 2
    · rw [if_pos h2, List.nodup_append]
      refine ⟨h1, by simp, fun a ha b hb => ?_⟩
      rw [List.mem_filter] at ha
      rw [List.mem_singleton] at hb
      subst hb
      simpa using ha.2
    · rw [if_neg h2, List.append_nil]; exact h1
  · show u < n ∧ upd x.st t c u = 2
    rcases (hm u).1 hu with ⟨a, b⟩ | ⟨a, b⟩
    · rw [upd_other _ _ b]; exact h.q u a
    · subst b; rw [upd_same]; exact ⟨ht, a⟩
  · show upd x.st t c u ≤ 4
    by_cases e : u = t
    · subst e; rw [upd_same]; exact hc
    · rw [upd_other _ _ e]; exact h.st u
  · show upd x.st t c u = 0
    rw [upd_other _ _ (by omega)]; exact h.out u hu
theorem nx_le (k : Int) : nx k ≤ 4 := by
  unfold nx
  repeat' split
  all_goals omega
theorem nx_two {k : Int} (h : nx k = 2) : k = 2 := by
  unfold nx at h
  split at h
  · cases h
  split at h
  · assumption
  split at h
  · cases h
  split at h <;> cases h
theorem take_ok (h : x.Ok n) (ht : x.take n e = some y) : y.Ok n := by
  obtain ⟨hf, rfl⟩ := take_some h ht
  have h0 := hf.1
  exact goOn_ok h (by omega) (nx_le _)
theorem run_ok (h : x.Ok n) (hr : x.run n l = some y) : y.Ok n := by
  induction l generalizing x with
  | nil => cases hr; exact h
  | cons e l ih =>
    cases hz : x.take n e with
    | none => rw [run_none hz] at hr; cases hr
    | some z => rw [run_some hz] at hr; exact ih (take_ok h hz) hr
end FA
/-! ### entries, looked back at -/
/-- the kind of a thread's last entry; 0: it has none -/
def lastK (l : List Ent) (t : Int) : Int := l.foldl (fun k e => if e.t = t then e.k else k) 0
theorem lastK_snoc (l : List Ent) (e : Ent) (t : Int) : lastK (l ++ [e]) t = if e.t = t then e.k else lastK l t := by
  unfold lastK
  rw [List.foldl_append]
  rfl
/-- nobody of a list has a thread's number -/
def noT (l : List Ent) (t : Int) : Bool := l.all fun e => !decide (e.t = t)
/-- those whose last entry is an Enq, in their order -/
def queS : List Ent → List Int
  | [] => []
  | e :: l => (if e.k = 2 ∧ noT l e.t = true then [e.t] else []) ++ queS l
theorem noT_snoc (l : List Ent) (e : Ent) (t : Int) : noT (l ++ [e]) t = (noT l t && !decide (e.t = t)) := by
  unfold noT
  rw [List.all_append]
  simp
theorem queS_snoc (l : List Ent) (e : Ent) : queS (l ++ [e]) = ((queS l).filter fun u => decide (u ≠ e.t)) ++ if e.k = 2 then [e.t] else [] := by
  induction l with
  | nil => simp [queS, noT]
  | cons a l ih =>
    rw [List.cons_append, queS, ih, queS, List.filter_append, noT_snoc, ← List.append_assoc]
    congr 1
    congr 1
    by_cases h : a.k = 2 ∧ noT l a.t = true
    · by_cases he : e.t = a.t
      · rw [if_neg (by simp [he]), if_pos h]; simp [he]
      · rw [if_pos (by simp [h.1, h.2, he]), if_pos h]; simp [Ne.symm he]
    · rw [if_neg (by intro hh; apply h; simp at hh; simp [hh]), if_neg h]; rfl
/-- what the automaton is, by what stands there -/
structure Hist (l : List Ent) (x : FA) : Prop where
  st : ∀ t : Nat, x.st t = FA.nx (lastK l t)
  q : x.q.map (fun t : Nat => (t : Int)) = queS l
theorem hist_new : Hist [] FA.new := ⟨fun _ => rfl, rfl⟩
theorem Hist.take {n : Nat} {x y : FA} {l : List Ent} {e : Ent} (h : Hist l x) (ho : x.Ok n) (ht : x.take n e = some y) : Hist (l ++ [e]) y := by
  obtain ⟨hf, rfl⟩ := FA.take_some ho ht
  obtain ⟨h0, hk⟩ := hf
  obtain ⟨t, ht⟩ : ∃ t : Nat, e.t = t := ⟨e.t.toNat, by omega⟩
  constructor
  · intro u
    rw [lastK_snoc]
    show upd x.st e.t.toNat (FA.nx e.k) u = _
    rw [ht, Int.toNat_natCast]
    by_cases hu : u = t
    · subst hu; rw [upd_same, if_pos rfl]
    · rw [upd_other _ _ hu, if_neg (by omega)]; exact h.st u
  · rw [queS_snoc, ← h.q]
    show ((x.q.filter fun u => decide (u ≠ e.t.toNat)) ++ if FA.nx e.k = 2 then [e.t.toNat] else []).map _ = _
    rw [ht, Int.toNat_natCast, List.map_append, List.filter_map]
    congr 1
    · congr 1
      apply List.filter_congr
      intro u _
      simp only [Function.comp]
      congr 1
      simp only [ne_eq, eq_iff_iff]
      omega
    · by_cases h2 : e.k = 2
      · rw [if_pos h2, if_pos (by rw [h2]; rfl)]; rfl
      · rw [if_neg h2, if_neg fun h => h2 (FA.nx_two h)]; rfl
theorem Hist.run {n : Nat} {x y : FA} {l r : List Ent} (h : Hist l x) (ho : x.Ok n) (hr : x.run n r = some y) : Hist (l ++ r) y := by
  induction r generalizing x l with
  | nil => cases hr; rw [List.append_nil]; exact h
  | cons e r ih =>
    cases hz : x.take n e with
    | none => rw [FA.run_none hz] at hr; cases hr
    | some z =>
      rw [FA.run_some hz] at hr
      have := ih (h.take ho hz) (FA.take_ok ho hz) hr
      rwa [List.append_assoc] at this
theorem hist {n : Nat} {y : FA} {l : List Ent} (hr : FA.new.run n l = some y) : Hist l y ∧ y.Ok n := ⟨by have := hist_new.run FA.new_ok hr; exact this, FA.run_ok FA.new_ok hr⟩
/-- at a Grant: nobody holds, and the one of the entry is the first one in the queue -/
theorem grant_at {n i : Nat} {x : FA} {l : List Ent} {e : Ent} (hr : FA.new.run n l = some x) (he : l[i]? = some e) (hk : e.k = 4) : (∀ t : Nat, lastK (l.take i) t ≠ 4) ∧ ∃ r, queS (l.take i) = e.t :: r := by
  obtain ⟨y, hy⟩ := FA.run_pre hr i
  obtain ⟨z, hz⟩ := FA.run_pre hr (i + 1)
  obtain ⟨hh, ho⟩ := hist hy
  have htk : ∃ z, y.take n e = some z := by
    cases h : y.take n e with
    | some z => exact ⟨z, rfl⟩
    | none =>
      have ht : l.take (i + 1) = l.take i ++ [e] := by rw [List.take_add_one, he]; rfl
      rw [ht, FA.run_app hy, FA.run_none h] at hz
      cases hz
  obtain ⟨z, hz⟩ := htk
  obtain ⟨hf, _⟩ := FA.take_some ho hz
  obtain ⟨h0, hf⟩ := hf
  have hg : y.q.head? = some e.t.toNat ∧ ∀ u, u < n → y.st u ≠ 3 := by
    rcases hf with ⟨k, _⟩ | ⟨k, _⟩ | ⟨_, c⟩ | ⟨k, _⟩ | ⟨k, _⟩ | ⟨k, _⟩ | ⟨k, _⟩
    all_goals first | exact c | omega
  constructor
  · intro t h4
    have h3 : y.st t = 3 := by rw [hh.st t, h4]; rfl
    by_cases htn : t < n
    · exact hg.2 t htn h3
    · have := ho.out t (by omega); omega
  · rw [← hh.q]
    cases hq : y.q with
    | nil => rw [hq] at hg; cases hg.1
    | cons a r =>
      rw [hq] at hg
      have h1 := hg.1
      cases h1
      exact ⟨r.map fun t : Nat => (t : Int), by rw [List.map_cons, show ((e.t.toNat : Nat) : Int) = e.t by omega]⟩
end Go.Proofs.Ytmnephejhkfchaa
