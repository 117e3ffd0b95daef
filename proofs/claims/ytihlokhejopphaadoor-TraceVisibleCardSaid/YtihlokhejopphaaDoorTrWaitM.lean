/- Who waits: the entries' word, the map's word, what was collected of the map; no program is named. -/
import Derived.Test.YtihlokhejopphaaDoorTrMath
import Derived.Test.YtihlokhejopphaaDoorGrow
import Derived.Maps.RangeWalk
import Derived.Maps.OwnSet
import Derived.Maps.OwnIn
import Derived.Maps.Views
import Derived.Sort.OwnSortedInts
namespace Go.Proofs.YtihlokhejopphaaDoor
open Go.RowKit Go.Maps
set_option linter.unusedVariables false

def waitU (t : Int) (b : Bool) (e : Ent) : Bool := if e.t = t then (if e.k = 1 then true else if e.k = 4 ∨ e.k = 5 ∨ e.k = 8 then false else b) else b
/-- does the thread wait? -/
def waitS (l : List Ent) (t : Int) : Bool := l.foldl (waitU t) false
theorem waitS_snoc (l : List Ent) (e : Ent) (t : Int) : waitS (l ++ [e]) t = waitU t (waitS l t) e := by simp [waitS]

/-- the map says who waits -/
def SaysW (M : DataW Unit) (l : List Ent) : Prop := IsMap M ∧ ∀ t, has M (.int .i64 t) = waitS l t
theorem saysW_nil : SaysW (.map []) [] := ⟨⟨[], rfl⟩, fun t => rfl⟩
theorem int_key_ne {a b : Int} (h : a ≠ b) : Lit.int .i64 a ≠ Lit.int .i64 b := fun e => by cases e; exact h rfl
theorem saysW_put {M : DataW Unit} {l : List Ent} {e : Ent} (h : SaysW M l) (hk : e.k = 1) (d : DataW Unit) : SaysW (M.put (.int .i64 e.t) d) (l ++ [e]) := by
  refine ⟨h.1.put _ _, fun t => ?_⟩
  rw [waitS_snoc]
  by_cases ht : t = e.t
  · subst ht
    rw [has_put_same h.1 (show WideAt.IsKeyLit (Lit.int .i64 e.t) from trivial)]
    simp [waitU, hk]
  · rw [has_put_other (int_key_ne ht), h.2 t]
    simp [waitU, Ne.symm ht]
theorem saysW_del {M : DataW Unit} {l : List Ent} {e : Ent} (h : SaysW M l) (hk : e.k = 4 ∨ e.k = 5 ∨ e.k = 8) : SaysW (M.del (.int .i64 e.t)) (l ++ [e]) := by
  refine ⟨h.1.del _, fun t => ?_⟩
  rw [waitS_snoc]
  by_cases ht : t = e.t
  · subst ht
    rw [has_del_same]
    have : e.k ≠ 1 := by omega
    simp [waitU, hk, this]
  · rw [has_del_other (int_key_ne ht), h.2 t]
    simp [waitU, Ne.symm ht]
theorem saysW_stay {M : DataW Unit} {l : List Ent} {e : Ent} (h : SaysW M l) (h1 : e.k ≠ 1) (h4 : e.k ≠ 4) (h5 : e.k ≠ 5) (h8 : e.k ≠ 8) : SaysW M (l ++ [e]) := by
  refine ⟨h.1, fun t => ?_⟩
  rw [waitS_snoc, h.2 t]
  simp [waitU, h1, h4, h5, h8]

/-- what was collected: no key twice; just the keys that are no longer to come -/
def Met (M : DataW Unit) (left : Lit → Bool) (xs : List Int) : Prop := xs.Nodup ∧ ∀ t, t ∈ xs ↔ ((Lit.int .i64 t).wf = true ∧ has M (.int .i64 t) = true ∧ left (.int .i64 t) = false)
theorem met_start (M : DataW Unit) : Met M (has M) [] := ⟨List.nodup_nil, fun t => by cases has M (.int .i64 t) <;> simp⟩
theorem met_step {M : DataW Unit} {left : Lit → Bool} {xs : List Int} (h : Met M left xs) {x : Int} {y : DataW Unit} (hw : (Lit.int .i64 x).wf = true) (hlk : left (.int .i64 x) = true) (hat : ∀ zd, M.atKey (.int .i64 x) zd = y) : Met M (fun z => left z && !z.sameKey (.int .i64 x)) (xs ++ [x]) := by
  have hhas : has M (.int .i64 x) = true := has_true_of_atKey hat
  have hnew : x ∉ xs := fun hx => by have := ((h.2 x).1 hx).2.2; rw [hlk] at this; cases this
  refine ⟨List.nodup_append.2 ⟨h.1, by simp, fun a ha b hb => by simp at hb; subst hb; exact fun e => hnew (e ▸ ha)⟩, fun y => ?_⟩
  by_cases hy : y = x
  · subst hy
    have hs : (Lit.int .i64 y).sameKey (Lit.int .i64 y) = true := by simp [Lit.sameKey]
    have hs2 : (left (Lit.int .i64 y) && !(Lit.int .i64 y).sameKey (Lit.int .i64 y)) = false := by rw [hs]; simp
    exact ⟨fun _ => ⟨hw, hhas, hs2⟩, fun _ => by simp⟩
  · have hs : (Lit.int .i64 y).sameKey (Lit.int .i64 x) = false := sameKey_ne (int_key_ne hy)
    have hs2 : (left (Lit.int .i64 y) && !(Lit.int .i64 y).sameKey (Lit.int .i64 x)) = left (Lit.int .i64 y) := by rw [hs]; simp
    show y ∈ xs ++ [x] ↔ (Lit.int .i64 y).wf = true ∧ has M (.int .i64 y) = true ∧ (left (Lit.int .i64 y) && !(Lit.int .i64 y).sameKey (Lit.int .i64 x)) = false
    rw [hs2, List.mem_append, ← h.2 y]
    simp [hy]

/-- the threads that wait, in their order -/
def WaitL (D : List Ent) (xs : List Int) : Prop := xs.Pairwise (· < ·) ∧ ∀ t, t ∈ xs ↔ ((Lit.int .i64 t).wf = true ∧ waitS D t = true)
theorem waitL_same {D D' : List Ent} {xs ys : List Int} (h : WaitL D xs) (k : WaitL D' ys) (hs : ∀ t, waitS D t = waitS D' t) : xs = ys := by
  have hp : xs.Perm ys := by
    refine (List.perm_ext_iff_of_nodup (h.1.imp fun {a b} hab => by omega) (k.1.imp fun {a b} hab => by omega)).2 fun t => ?_
    rw [h.2, k.2, hs]
  exact hp.eq_of_pairwise (le := fun a b => a < b) (fun a b _ _ h1 h2 => by omega) h.1 k.1
theorem waitL_sort {D : List Ent} {M : DataW Unit} {left : Lit → Bool} {xs : List Int} (hm : Met M left xs) (hl : ∀ k, left k = false) (hs : SaysW M D) : WaitL D (xs.mergeSort fun x y => decide (x ≤ y)) := by
  have hpm := List.mergeSort_perm xs fun x y => decide (x ≤ y)
  refine ⟨?_, fun t => ?_⟩
  · have h1 := List.pairwise_mergeSort (le := fun x y : Int => decide (x ≤ y)) (fun a b c h1 h2 => by simp only [decide_eq_true_eq] at *; omega) (fun a b => by simp only [Bool.or_eq_true, decide_eq_true_eq]; omega) xs
    have h2 := hpm.nodup_iff.2 hm.1
    exact (List.pairwise_and_iff.2 ⟨h1, h2⟩).imp fun {a b} h => by simp only [decide_eq_true_eq] at h; omega
  · rw [hpm.mem_iff, hm.2 t, hs.2 t, hl]
    simp
/-- a step of a range over a map keyed by integers, its element as it is -/
theorem wpList_next_ranges_iv {P : Program} (w : World) {ops : Array Oper} {rest : List Oper} {o : Oper} {a : Act} {Q : Exit → Act → World → Prop}
    (hg : o.guard = none) (it : Operand) (hop : o.op = Op.next it false) (k e : TypeId) (qk : IntKind) (K : Keyed P k) (hk : P.underlying k = some (.int qk))
    (b r n : Nat) (D : DataW Unit) (left : Lit → Bool) (cnt : Nat) (hit : a.eval it = .pointer (some ⟨r, 0, none⟩)) (h : w.ranges P k (plainElem P e) b r n D left cnt)
    (hDone : cnt = 0 → (∀ kl, left kl = false) → wpList P ops Q rest (a.put o.dst (.tuple #[.bool false])) w)
    (hMore : ∀ (x : Int) (c : Value) (w' : World) (cnt' : Nat), (Lit.int qk x).wf = true → left (.int qk x) = true → (∃ y, ∀ zd, D.atKey (.int qk x) zd = y) → w'.ranges P k (plainElem P e) b r n D (fun z => left z && !z.sameKey (.int qk x)) cnt' → cnt' < cnt →
      w.grownBy w' (some r) → w'.heap.size = w.heap.size → (Instr.entry (.pointer (some ⟨r, 0, none⟩))).run P w' = .ok (.tuple #[.int qk x, c]) w' → wpList P ops Q rest (a.put o.dst (.tuple #[.bool true, .int qk x, c])) w') :
    wpList P ops Q (o :: rest) a w :=
  wpList_next_ranges w hg it hop k K (plainElem P e) (Value.int qk) id (fun key kl hkey => by obtain ⟨x, rfl, _⟩ := Maps.keyOf_int_inv hk hkey; exact ⟨x, rfl⟩) (fun v y _ => ⟨v, rfl⟩)
    b r n D left cnt hit h hDone (fun x c kl y w' cnt' hkey hlk hv hat hrg hlt hgr hsz hen => by
      obtain ⟨x', ex, rfl, hwx⟩ := Maps.keyOf_int_inv hk hkey
      cases ex
      exact hMore x c w' cnt' hwx hlk ⟨_, hat⟩ hrg hlt hgr hsz hen)
end Go.Proofs.YtihlokhejopphaaDoor
