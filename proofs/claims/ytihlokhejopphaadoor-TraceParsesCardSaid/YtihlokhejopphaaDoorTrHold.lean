/- The contract of package trace's Holder. -/
import Derived.Test.YtihlokhejopphaaDoorTrBack
import Derived.Maps.OwnIn
import Derived.Maps.Views
namespace Go.Proofs.YtihlokhejopphaaDoor
open Go.RowKit Go.Shelf Go.Maps Go.Deep
set_option linter.unusedVariables false
attribute [local go_sem] Oper.semAt_some

/-- is there an Unlock of the thread? -/
def unl (l : List Ent) (t : Int) : Bool := l.any fun e => e.k == 6 && e.t == t
/-- who has the lock -/
def holdS : List Ent → Option Int
  | [] => none
  | e :: r => match holdS r with
    | some t => some t
    | none => if (e.k == 4 && !unl r e.t) = true then some e.t else none
theorem holdS_some {e : Ent} {r : List Ent} {t : Int} (h : holdS r = some t) : holdS (e :: r) = some t := by rw [holdS, h]
theorem holdS_here {e : Ent} {r : List Ent} (h : holdS r = none) (hk : e.k = 4) (hu : unl r e.t = false) : holdS (e :: r) = some e.t := by rw [holdS, h]; simp [hk, hu]
theorem holdS_not {e : Ent} {r : List Ent} (h : holdS r = none) (hk : e.k ≠ 4 ∨ unl r e.t = true) : holdS (e :: r) = none := by
  rw [holdS, h]
  rcases hk with hk | hk
  · simp [hk]
  · simp [hk]
theorem holdS_app {a r : List Ent} {t : Int} (h : holdS r = some t) : holdS (a ++ r) = some t := by
  induction a with
  | nil => exact h
  | cons e a ih => exact holdS_some ih
theorem unl_cons (e : Ent) (r : List Ent) (t : Int) : unl (e :: r) t = ((e.k == 6 && e.t == t) || unl r t) := by simp [unl]

theorem plainElem_bool_inv {P : Program} {e : TypeId} (he : P.underlying e = some .bool) {v : Value} {z : DataW Unit × List MemPlace} (h : plainElem P e v = some z) : ∃ b, v = .bool b ∧ z = (.lit (.bool b), []) := by
  unfold plainElem at h
  rw [he] at h
  cases v <;> simp at h
  subst h
  exact ⟨_, rfl, rfl⟩
/-- a look-up of a truth, in the map's words -/
theorem look_bool {P : Program} {w : World} {t k e : TypeId} {b n : Nat} {D : DataW Unit} (h : w.ownsMap P k (plainElem P e) b n D) (K : Keyed P k) (ht : P.underlying t = some (.map k e)) (he : P.underlying e = some .bool) (hz : (zeroValue e).run P w = .ok (.bool false) w)
    {key : Value} {kl : Lit} (hkey : keyOf P k key = some kl) {u : Bool} (hu : D.atKey kl (.lit (.bool false)) = .lit (.bool u)) : (Instr.lookup t (.map (some b)) key false).run P w = .ok (.bool u) w := by
  obtain ⟨v, ps, hrun, hv⟩ := h.lookup K ht hz (plainElem_bool he false) hkey
  obtain ⟨x, rfl, hx⟩ := plainElem_bool_inv he hv
  rw [hu] at hx
  simp only [Prod.mk.injEq, DataW.lit.injEq, Lit.bool.injEq] at hx
  rw [hx.1]
  exact hrun

/-- the map says who has an Unlock -/
def SaysU (M : DataW Unit) (l : List Ent) : Prop := IsMap M ∧ ∀ t, (Lit.int .i64 t).wf = true → M.atKey (.int .i64 t) (.lit (.bool false)) = .lit (.bool (unl l t))
theorem says_nil : SaysU (.map []) [] := ⟨⟨[], rfl⟩, fun t _ => rfl⟩

/-- between two rounds -/
structure HolSt (w : World) (pre : List BE) (W : World) : Prop where
  c0 : W.heap[w.heap.size]? = some (.cells #[.int .i64 0] 3 (0, 0))
  c1 : W.heap[w.heap.size + 1]? = some (.cells #[.bool false] 4 (0, 0))
  c3 : W.heap[w.heap.size + 1 + 1 + 1]? = some (.cells #[.map (some (w.heap.size + 1 + 1))] 73 (0, 0))
  map : ∃ M m, W.ownsMap Tryd.prog 3 (plainElem (H := Unit) Tryd.prog 4) (w.heap.size + 1 + 1) m M ∧ m ≤ pre.length ∧ SaysU M (entsB pre).reverse
  held : holdS (entsB pre).reverse = none
  low : Below w.heap.size w W
  size : w.heap.size + 1 + 1 + 1 + 1 + 1 ≤ W.heap.size
structure HolEnd (w : World) (pre : List BE) (W : World) : Prop where
  got : ∃ t, holdS (entsB pre).reverse = some t ∧ W.heap[w.heap.size]? = some (.cells #[.int .i64 t] 3 (0, 0))
  c1 : W.heap[w.heap.size + 1]? = some (.cells #[.bool true] 4 (0, 0))
  low : Below w.heap.size w W
theorem hol_bears (w : World) : BearsAll (w.heap.size + 1 + 1 + 1 + 1) (w.heap.size + 1 + 1 + 1 + 1 + 1) (HolSt w) := by
  intro pre X Y r h hg hr
  have hne : ∀ k, k ≤ w.heap.size + 3 → some k ≠ some r := fun k hk e => by cases e; rcases hr with hr | hr <;> omega
  refine ⟨(hg.block _ (blk_lt h.c0) (hne _ (by omega))).trans h.c0, (hg.block _ (blk_lt h.c1) (hne _ (by omega))).trans h.c1, (hg.block _ (blk_lt h.c3) (hne _ (by omega))).trans h.c3, ?_, h.held, h.low.grown hg (Nat.le_of_lt (blk_lt h.c0)) (fun k e => by cases e; rcases hr with hr | hr <;> omega), Nat.le_trans h.size hg.size⟩
  obtain ⟨M, m, h1, h2, h3⟩ := h.map
  exact ⟨M, m, h1.kept hg (hne _ (by omega)), h2, h3⟩
theorem hol_end (w : World) : BearsAll (w.heap.size + 1 + 1 + 1 + 1) (w.heap.size + 1 + 1 + 1 + 1 + 1) (HolEnd w) := by
  intro pre X Y r h hg hr
  have hne : ∀ k, k ≤ w.heap.size + 3 → some k ≠ some r := fun k hk e => by cases e; rcases hr with hr | hr <;> omega
  obtain ⟨t, ht, h0⟩ := h.got
  exact ⟨⟨t, ht, (hg.block _ (blk_lt h0) (hne _ (by omega))).trans h0⟩, (hg.block _ (blk_lt h.c1) (hne _ (by omega))).trans h.c1, h.low.grown hg (Nat.le_of_lt (blk_lt h0)) (fun k e => by cases e; rcases hr with hr | hr <;> omega)⟩

/-- the frame between the rounds -/
def holT (sa : Option Addr) (n cap N : Nat) (j : Nat) (v u : Value) : Array Value :=
  #[.slice sa n cap, undef, .pointer (some ⟨N, 0, none⟩), .pointer (some ⟨N + 1, 0, none⟩), .pointer (some ⟨N + 1 + 1 + 1, 0, none⟩), undef, u, .map (some (N + 1 + 1)), .slice sa n cap, .func (.func 41) #[] #[.pointer (some ⟨N + 1 + 1 + 1 + 1, 0, none⟩)], .int .i64 j, v, undef, undef, undef, undef, undef, undef, undef, undef, undef, undef, undef, undef, undef, undef, undef, undef, undef, undef]
def entV (e : Ent) : Value := .agg #[.int .i64 e.k, .int .i64 e.t, .int .i64 e.n, .bool e.ld]
/-- behind the assignment: the entry in a block of its own -/
def HolAx (N : Nat) (sa : Option Addr) (n cap : Nat) (x : BE) (a : Act) (W : World) : Prop :=
  ∃ Bx, N + 1 + 1 + 1 + 1 + 1 ≤ Bx ∧ W.heap[Bx]? = some (.cells #[.int .i64 x.1.2.k, .int .i64 x.1.2.t, .int .i64 x.1.2.n, .bool x.1.2.ld] 41 (0, 0)) ∧ a = { tmps := holT sa n cap N x.1.1 (entV x.1.2) (.pointer (some ⟨Bx, 0, none⟩)), defers := [] }
theorem hol_ax (N : Nat) (sa : Option Addr) (n cap : Nat) (x : BE) (a : Act) : BearsAll (N + 1 + 1 + 1 + 1) (N + 1 + 1 + 1 + 1 + 1) (fun (_ : Unit) W => HolAx N sa n cap x a W) := by
  intro _ X Y r h hg hr
  obtain ⟨Bx, h1, h2, h3⟩ := h
  refine ⟨Bx, h1, (hg.block _ (blk_lt h2) (fun e => ?_)).trans h2, h3⟩
  cases e
  rcases hr with hr | hr
  · omega
  · have := hr.2 _ h2
    cases this

def HoldPost (w : World) (D : List Ent) (e : Ending) (w' : World) : Prop :=
  e = .returned (.tuple #[.int .i64 ((holdS D).getD 0), .bool (holdS D).isSome]) ∧ Wrote Nil w w'

set_option maxRecDepth 100000 in
set_option maxHeartbeats 4000000 in
theorem tr_holder {w : World} {sa : Option Addr} {n cap : Nat} {D : List Ent} (h : RecsAt eC 4 w sa n D) (hn : n ≤ 1000) (hwf : ∀ e ∈ D, (Lit.int .i64 e.t).wf = true) :
    Calls Tryd.prog 16 #[.slice sa n cap] w (HoldPost w D) := by
  refine (callsIn_wide (n := 6)).1 ?_
  have hro : Fence.wide.round = none := rfl
  have hmm := @run_makeMap Tryd.prog
  refine callsIn_of_wp_marks Tryd.func16 rfl trivial ?_ hro
  simp only [Tryd.ntmps16, List.size_toArray, List.length_cons, List.length_nil, Nat.reduceAdd, Nat.reduceSub, Array.replicate_succ, Array.replicate_zero, List.push_toArray, List.append_toArray, List.nil_append, List.cons_append]
  gi_wp2_with (refine ⟨trivial, ?_⟩; gi_at_call 31; refine (back_any Fence.wide (6 - 1) trivial hro _ _ _ _).mono ?_; rintro e w' ⟨rfl, rfl⟩)
  obtain ⟨W0, hW0⟩ : ∃ W0, W0 = ((((w.alloc (.cells #[.int .i64 0] 3)).alloc (.cells #[.bool false] 4)).alloc (.map #[] 0)).alloc (.cells #[.map (some (w.heap.size + 1 + 1))] 73)).alloc (.cells #[.slice sa n cap] 22) := ⟨_, rfl⟩
  have hsz : W0.heap.size = w.heap.size + 1 + 1 + 1 + 1 + 1 := by rw [hW0]; simp
  have hbox : W0.heap[w.heap.size + 1 + 1 + 1 + 1]? = some (.cells #[.slice sa n cap] 22 (0, 0)) := by
    have := World.alloc_heap_new ((((w.alloc (.cells #[.int .i64 0] 3)).alloc (.cells #[.bool false] 4)).alloc (.map #[] 0)).alloc (.cells #[.map (some (w.heap.size + 1 + 1))] 73)) (.cells #[.slice sa n cap] 22)
    rw [hW0]; simpa using this
  have hlow : Below w.heap.size w W0 := by
    rw [hW0]
    exact (((((Below.refl _ w).alloc (Nat.le_refl _) _).alloc (by simp) _).alloc (by simp; omega) _).alloc (by simp; omega) _).alloc (by simp; omega) _
  have hst : HolSt w [] W0 := by
    have n1 := World.alloc_heap_new (w.alloc (.cells #[.int .i64 0] 3)) (.cells #[.bool false] 4)
    have n3 := World.alloc_heap_new (((w.alloc (.cells #[.int .i64 0] 3)).alloc (.cells #[.bool false] 4)).alloc (.map #[] 0)) (.cells #[.map (some (w.heap.size + 1 + 1))] 73)
    have m2 := World.ownsMap_made ((w.alloc (.cells #[.int .i64 0] 3)).alloc (.cells #[.bool false] 4)) Tryd.prog 3 (plainElem (H := Unit) Tryd.prog 4)
    simp only [World.size_alloc] at n1 n3 m2
    refine ⟨?_, ?_, ?_, ⟨_, 0, ?_, Nat.le_refl _, says_nil⟩, rfl, hlow, by omega⟩
    · rw [hW0, Below.heap_alloc _ _ _ (by simp; omega), Below.heap_alloc _ _ _ (by simp; omega), Below.heap_alloc _ _ _ (by simp; omega), Below.heap_alloc _ _ _ (by simp)]
      exact World.alloc_heap_new w _
    · rw [hW0, Below.heap_alloc _ _ _ (by simp; try omega), Below.heap_alloc _ _ _ (by simp; try omega), Below.heap_alloc _ _ _ (by simp; try omega)]
      exact n1
    · rw [hW0, Below.heap_alloc _ _ _ (by simp)]
      exact n3
    · rw [hW0]
      exact (m2.alloc _).alloc _
  have hB1 := hol_bears w
  have hB2 := hol_end w
  rw [← hsz] at hB1 hB2
  rw [← hW0]
  clear hW0
  have hA1 : ∀ x a, BearsAll (w.heap.size + 1 + 1 + 1 + 1) W0.heap.size (fun (_ : Unit) W => HolAx w.heap.size sa n cap x a W) := fun x a => by rw [hsz]; exact hol_ax w.heap.size sa n cap x a
  refine wpIn_rangeC hro (by omega) (gf := 41) (Bs := w.heap.size + 1 + 1 + 1 + 1) (B0 := w.heap.size) (w0 := W0) rfl trivial (enters_of Tryd.func41 (by kernel_rfl) rfl)
    (back_stops Fence.wide (6 - 1) trivial hro (by omega) _ sa n cap D w W0 h hn hwf hlow hbox) (by omega) (by omega) (Below.refl _ _) (fun _ => rfl) (HolSt w) (HolEnd w) hB1 hB2 hst (HolAx w.heap.size sa n cap) hA1 ?assign ?body ?done ?stop
  case assign =>
    rintro l pre ⟨⟨j, x0, x1, x2, x3⟩, hx⟩ W K hI hK
    have hs := hI.size
    dsimp only [encB]
    gi_wp2
    exact hK _ _ ((KeepsOthers.alloc _ _).from _) (Kept.grown (by omega) (World.grownBy_alloc W _ (some W.heap.size)) (by omega) (by omega)) (hB1 _ _ _ W.heap.size hI (World.grownBy_alloc W _ _) (.inr ⟨by omega, fun o ho => by have := blk_lt ho; omega⟩)) ⟨W.heap.size, by omega, World.alloc_heap_new W _, rfl⟩
  case body =>
    rintro l pre ⟨⟨j, x0, x1, x2, x3⟩, hx⟩ a' W hsW hI ⟨Bx, hBx, hc, rfl⟩ hlt
    simp only at hc hx
    have g0 : W.cell? ⟨Bx, 0, none⟩ = some (.int .i64 x0) := blk_cell hc 0
    have g1 : W.cell? ⟨Bx, 1, none⟩ = some (.int .i64 x1) := blk_cell hc 1
    have g4 : W.cell? ⟨w.heap.size + 1 + 1 + 1, 0, none⟩ = some (.map (some (w.heap.size + 1 + 1))) := blk_cell hI.c3 0
    obtain ⟨M, m, hown, hmle, hsay⟩ := hI.map
    change Code.wpIn _ _ _ _ _ { tmps := holT sa n cap w.heap.size j (entV ⟨x0, x1, x2, x3⟩) (.pointer (some ⟨Bx, 0, none⟩)), defers := [] } W
    unfold holT entV
    have hrev : (entsB (pre ++ [⟨(j, ⟨x0, x1, x2, x3⟩), hx⟩])).reverse = ⟨x0, x1, x2, x3⟩ :: (entsB pre).reverse := by rw [entsB_snoc]; simp
    have hkl := keyOf_int_mk (P := Tryd.prog) (q := .i64) Tryd.underlying3 hx
    have keep : ∀ (X : World) (r : Nat), W.grownBy X (some r) → (r = w.heap.size ∨ r = w.heap.size + 1 ∨ r = w.heap.size + 1 + 1) → KeepsFrom W0.heap.size W X ∧ Kept w.heap.size (w.heap.size + 1 + 1 + 1 + 1) W X := fun X r hg hr =>
      ⟨KeepsFrom.of_grownBy hg (fun j e => by cases e; omega), Kept.grown (by omega) hg (by omega) (by omega)⟩
    by_cases q6 : x0 = 6
    · subst q6
      have HI := Lib.hid (And.intro hI (And.intro hsay (And.intro hrev (And.intro hmle keep))))
      clear hI hsay hrev hmle keep
      gi_wp2_with (gi_at_mapUpdate; refine wpListIn_mapUpdate_own _ rfl _ _ _ 73 rfl 3 4 (Maps.int_keyed Tryd.underlying3) Tryd.underlying73 _ (w.heap.size + 1 + 1) m _ rfl hown (by unfold maxLen; have := HI.out.2.2.2.1; omega) _ _ _ rfl rfl hkl _ [] (plainElem_bool Tryd.underlying4 true) ?_; intro w1 hown1 hgrow1; have hc1 := (hgrow1.block Bx (blk_lt hc) (by intro e; cases e; omega)).trans hc; have k0 : w1.cell? ⟨Bx, 0, none⟩ = some (.int .i64 6) := blk_cell hc1 0)
      obtain ⟨hI, hsay, hrev, hmle, keep⟩ := HI.out
      have hne : ∀ k, k < W.heap.size → k ≠ w.heap.size + 1 + 1 → w1.heap[k]? = W.heap[k]? := fun k hk hn => hgrow1.block k hk (fun e => hn (by cases e; rfl))
      refine ⟨(keep _ _ hgrow1 (.inr (.inr rfl))).1, (keep _ _ hgrow1 (.inr (.inr rfl))).2, ?_⟩
      refine ⟨(hne _ (blk_lt hI.c0) (by omega)).trans hI.c0, (hne _ (blk_lt hI.c1) (by omega)).trans hI.c1, (hne _ (blk_lt hI.c3) (by omega)).trans hI.c3, ⟨_, _, hown1, by rw [List.length_append]; simp; omega, ?_⟩, ?_, hI.low.grown hgrow1 (by omega) (fun k e => by cases e; omega), Nat.le_trans hI.size hgrow1.size⟩
      · rw [hrev]
        obtain ⟨⟨es, rfl⟩, hsay⟩ := hsay
        refine ⟨⟨_, rfl⟩, fun t ht => ?_⟩
        rw [unl_cons]
        by_cases e : t = x1
        · subst e
          rw [atKey_put_same ⟨_, rfl⟩ (by simp [WideAt.IsKeyLit])]
          simp
        · rw [atKey_put_other (by intro h; cases h; exact e rfl), hsay t ht]
          have : ((x1 : Int) == t) = false := by simp; omega
          simp [this]
      · rw [hrev]
        exact holdS_not hI.held (.inl (by simp))
    · have t6 : ((x0 : Int) == 6) = false := by simpa using q6
      have hsayT := hsay
      have hstay : x0 ≠ 4 ∨ unl (entsB pre).reverse x1 = true → HolSt w (pre ++ [⟨(j, ⟨x0, x1, x2, x3⟩), hx⟩]) W := fun hh => by
        refine ⟨hI.c0, hI.c1, hI.c3, ⟨M, m, hown, by rw [List.length_append]; omega, hsay.1, fun t ht => ?_⟩, by rw [hrev]; exact holdS_not hI.held hh, hI.low, hI.size⟩
        rw [hrev, unl_cons, hsay.2 t ht]
        simp [t6]
      by_cases q4 : x0 = 4
      · subst q4
        obtain ⟨u, hu⟩ : ∃ u, u = unl (entsB pre).reverse x1 := ⟨_, rfl⟩
        have hlk := look_bool hown (Maps.int_keyed Tryd.underlying3) Tryd.underlying73 Tryd.underlying4 (Tryd.zeroValue4 _) hkl (hsay.2 x1 hx)
        rw [← hu] at hlk hstay
        cases u with
        | true =>
          have HI := Lib.hid (hstay (.inr rfl))
          clear hI hsay hsayT hrev hmle keep hu hstay hown
          gi_wp2
          exact ⟨KeepsFrom.refl _ _, Kept.refl _ _ _, HI.out⟩
        | false =>
          have f0 : W.frozen? ⟨w.heap.size, 0, none⟩ = false := blk_frozen hI.c0 0
          have f1 : W.frozen? ⟨w.heap.size + 1, 0, none⟩ = false := blk_frozen hI.c1 0
          have c0 : W.cell? ⟨w.heap.size, 0, none⟩ = some (.int .i64 0) := blk_cell hI.c0 0
          have c1 : W.cell? ⟨w.heap.size + 1, 0, none⟩ = some (.bool false) := blk_cell hI.c1 0
          have HI := Lib.hid (And.intro hI (And.intro hrev (And.intro keep hu)))
          clear hI hsay hsayT hrev hmle keep hu hstay hown
          gi_wp2
          obtain ⟨hI, hrev, keep, hu⟩ := HI.out
          have s0 := blk_setCell hI.c0 0 (.int .i64 x1)
          have s1 := blk_setCell ((blk_setCell_other W ⟨w.heap.size, 0, none⟩ (.int .i64 x1) (w.heap.size + 1) (by simp)).trans hI.c1) 0 (.bool true)
          refine ⟨((KeepsOthers.setCell W _ _).trans (KeepsOthers.setCell _ _ _)).from _, ⟨⟨x1, by rw [hrev]; exact holdS_here hI.held rfl hu.symm, ?_⟩, ?_, ?_⟩⟩
          · exact (blk_setCell_other _ ⟨w.heap.size + 1, 0, none⟩ _ _ (by simp)).trans (by simpa using s0)
          · simpa using s1
          · exact (hI.low.setCell (p := ⟨w.heap.size, 0, none⟩) (Nat.le_refl _) _).setCell (p := ⟨w.heap.size + 1, 0, none⟩) (Nat.le_succ _) _
      · have t4 : ((x0 : Int) == 4) = false := by simpa using q4
        have HI := Lib.hid (hstay (.inl q4))
        clear hI hsay hsayT hrev hmle keep hstay hown q6 q4
        gi_wp2
        exact ⟨KeepsFrom.refl _ _, Kept.refl _ _ _, HI.out⟩
  case done =>
    rintro Dk ys W hD hys hI hK
    have f0 : W.frozen? ⟨w.heap.size, 0, none⟩ = false := blk_frozen hI.c0 0
    have f1 : W.frozen? ⟨w.heap.size + 1, 0, none⟩ = false := blk_frozen hI.c1 0
    have c0 : W.cell? ⟨w.heap.size, 0, none⟩ = some (.int .i64 0) := blk_cell hI.c0 0
    have c1 : W.cell? ⟨w.heap.size + 1, 0, none⟩ = some (.bool false) := blk_cell hI.c1 0
    have HI := Lib.hid (And.intro hI (And.intro hys hK))
    clear hI hys hK
    gi_wp2
    obtain ⟨hI, hys, hK⟩ := HI.out
    have hK' := ((KeepsOthers.setCell W ⟨w.heap.size, 0, none⟩ (.int .i64 0)).trans (KeepsOthers.setCell _ ⟨w.heap.size + 1, 0, none⟩ (.bool false))).same Dk _ hK rfl
    have s0 := blk_setCell hI.c0 0 (.int .i64 0)
    have s1 := blk_setCell ((blk_setCell_other W ⟨w.heap.size, 0, none⟩ (.int .i64 0) (w.heap.size + 1) (by simp)).trans hI.c1) 0 (.bool false)
    have s0' := (blk_setCell_other (W.setCell ⟨w.heap.size, 0, none⟩ (.int .i64 0)) ⟨w.heap.size + 1, 0, none⟩ (.bool false) w.heap.size (by simp)).trans s0
    have hlo := ((hI.low.setCell (p := ⟨w.heap.size, 0, none⟩) (Nat.le_refl _) (.int .i64 0)).setCell (p := ⟨w.heap.size + 1, 0, none⟩) (Nat.le_succ _) (.bool false))
    generalize (W.setCell ⟨w.heap.size, 0, none⟩ (.int .i64 0)).setCell ⟨w.heap.size + 1, 0, none⟩ (.bool false) = V at hK' s0' s1 hlo ⊢
    refine ⟨by simp, .inl ⟨_, _, rfl, run_takeDeferred hK', ?_⟩⟩
    have d0 : (V.putObj Dk (.deferred none)).cell? ⟨w.heap.size, 0, none⟩ = some (.int .i64 0) := cell_kept (blk_cell s0' 0) (grownBy_putObj' _ Dk (.deferred none)) (fun r e => by cases e; exact ⟨_, hK', rfl⟩)
    have d1 : (V.putObj Dk (.deferred none)).cell? ⟨w.heap.size + 1, 0, none⟩ = some (.bool false) := cell_kept (blk_cell s1 0) (grownBy_putObj' _ Dk (.deferred none)) (fun r e => by cases e; exact ⟨_, hK', rfl⟩)
    have hh : holdS D = none := by
      have := hI.held
      rw [hys, List.reverse_reverse] at this
      exact this
    refine ⟨.tuple #[.int .i64 0, .bool false], by simp [results, Tryd.f16, go_sem, d0, d1], ?_⟩
    exact ⟨by rw [hh]; rfl, (Wrote.ofBelow hlo).grown (grownBy_putObj' _ _ _) (fun k e hk => by cases e; omega)⟩
  case stop =>
    rintro Dk pre W hD ⟨k, hk, hpre⟩ hI hK
    gi_wp2
    refine ⟨by simp, .inl ⟨_, _, rfl, run_takeDeferred hK, ?_⟩⟩
    obtain ⟨t, ht, h0⟩ := hI.got
    have d0 : (W.putObj Dk (.deferred none)).cell? ⟨w.heap.size, 0, none⟩ = some (.int .i64 t) := cell_kept (blk_cell h0 0) (grownBy_putObj' _ Dk (.deferred none)) (fun r e => by cases e; exact ⟨_, hK, rfl⟩)
    have d1 : (W.putObj Dk (.deferred none)).cell? ⟨w.heap.size + 1, 0, none⟩ = some (.bool true) := cell_kept (blk_cell hI.c1 0) (grownBy_putObj' _ Dk (.deferred none)) (fun r e => by cases e; exact ⟨_, hK, rfl⟩)
    have hh : holdS D = some t := by
      rw [hpre, List.reverse_take, List.reverse_reverse] at ht
      have := holdS_app (a := D.take (D.reverse.length - k)) ht
      rwa [List.take_append_drop] at this
    refine ⟨.tuple #[.int .i64 t, .bool true], by simp [results, Tryd.f16, go_sem, d0, d1], ?_⟩
    exact ⟨by rw [hh]; rfl, (Wrote.ofBelow hI.low).grown (grownBy_putObj' _ _ _) (fun k e hk => by cases e; omega)⟩
end Go.Proofs.YtihlokhejopphaaDoor
