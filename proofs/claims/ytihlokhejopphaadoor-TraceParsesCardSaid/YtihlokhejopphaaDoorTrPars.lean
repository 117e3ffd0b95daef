/- The contract of package trace's Parse. -/
import Derived.Test.YtihlokhejopphaaDoorTrLines
import Derived.Test.YtihlokhejopphaaDoorTrRead
import Derived.Test.YtihlokhejopphaaDoorTrHold
import Derived.Shelf.RegionOpen
namespace Go.Proofs.YtihlokhejopphaaDoor
open Go.RowKit Go.Shelf Go.Deep
set_option linter.unusedVariables false
attribute [local go_sem] Oper.semAt_some

theorem parseL_snoc {ls : List (List UInt8)} {E : List Ent} {x : List UInt8} {e : Ent} (h : parseL ls = (E, true)) (hx : rd x = some e) : parseL (ls ++ [x]) = (E ++ [e], true) := by
  induction ls generalizing E with
  | nil => cases h; rw [List.nil_append, parseL_some _ hx]; rfl
  | cons y r ih =>
    cases hy : rd y with
    | none => rw [parseL_none r hy] at h; cases h
    | some e' =>
      rw [parseL_some r hy] at h
      rw [List.cons_append, parseL_some _ hy, ih (E := (parseL r).1) (by rw [← (Prod.mk.inj h).2])]
      rw [← (Prod.mk.inj h).1]
      rfl
theorem parseL_fail {ls : List (List UInt8)} {E : List Ent} {x : List UInt8} (r : List (List UInt8)) (h : parseL ls = (E, true)) (hx : rd x = none) : parseL (ls ++ x :: r) = (E, false) := by
  induction ls generalizing E with
  | nil => cases h; exact parseL_none r hx
  | cons y t ih =>
    cases hy : rd y with
    | none => rw [parseL_none t hy] at h; cases h
    | some e' =>
      rw [parseL_some t hy] at h
      rw [List.cons_append, parseL_some _ hy, ih (E := (parseL t).1) (by rw [← (Prod.mk.inj h).2])]
      rw [← (Prod.mk.inj h).1]
theorem parseL_len (ls : List (List UInt8)) : (parseL ls).1.length ≤ ls.length := by
  induction ls with
  | nil => exact Nat.le_refl _
  | cons y r ih =>
    cases hy : rd y with
    | none => rw [parseL_none r hy]; exact Nat.zero_le _
    | some e => rw [parseL_some r hy]; simp only [List.length_cons]; omega

theorem Kept.ofNil {B0 Bs : Nat} {X Y : World} (h : Wrote Nil X Y) (hX : B0 ≤ X.heap.size) : Kept B0 Bs X Y :=
  ⟨⟨h.os, h.tape, h.output, h.size, fun k hk => h.block k (Nat.lt_of_lt_of_le hk hX) id⟩, fun o ho => (h.block Bs (blk_lt ho) id).trans ho⟩
theorem keeps_ofNil {X Y : World} (h : Wrote Nil X Y) (L : Nat) : KeepsFrom L X Y := ⟨h.size, fun k o hk ho _ => (h.block k (blk_lt ho) id).trans ho⟩

/-- between two rounds -/
structure ParSt (w : World) (pre : List LE) (E : List Ent) (dv : Value) (W : World) : Prop where
  c0 : W.heap[w.heap.size]? = some (.cells #[.slice none 0 0] 22 (0, 0))
  c1 : W.heap[w.heap.size + 1]? = some (.cells #[.int .i64 0] 3 (0, 0))
  c2 : W.heap[w.heap.size + 1 + 1]? = some (.cells #[.int .i64 0] 30 (0, 0))
  c3 : W.heap[w.heap.size + 1 + 1 + 1]? = some (.cells #[dv] 22 (0, 0))
  row : W.ownsRow (w.heap.size + 1 + 1 + 1 + 1 + 1) 41 4 dv E.length (E.flatMap eC)
  par : parseL (lns pre) = (E, true)
  low : Below w.heap.size w W
  size : w.heap.size + 1 + 1 + 1 + 1 + 1 ≤ W.heap.size
structure ParEnd (w : World) (pre : List LE) (W : World) : Prop where
  got : ∃ p0 x E, pre = p0 ++ [x] ∧ parseL (lns p0) = (E, true) ∧ rd x.1 = none ∧ W.heap[w.heap.size + 1]? = some (.cells #[.int .i64 (E.length : Nat)] 3 (0, 0))
  c0 : W.heap[w.heap.size]? = some (.cells #[.slice none 0 0] 22 (0, 0))
  c2 : W.heap[w.heap.size + 1 + 1]? = some (.cells #[.int .i64 4] 30 (0, 0))
  low : Below w.heap.size w W
theorem par_bears (w : World) : BearsAll (w.heap.size + 1 + 1 + 1 + 1) (w.heap.size + 1 + 1 + 1 + 1 + 1) (fun pre W => ∃ E dv, ParSt w pre E dv W) := by
  rintro pre X Y r ⟨E, dv, h⟩ hg hr
  have hne : ∀ k, k ≤ w.heap.size + 3 → some k ≠ some r := fun k hk e => by cases e; rcases hr with hr | hr <;> omega
  refine ⟨E, dv, (hg.block _ (blk_lt h.c0) (hne _ (by omega))).trans h.c0, (hg.block _ (blk_lt h.c1) (hne _ (by omega))).trans h.c1, (hg.block _ (blk_lt h.c2) (hne _ (by omega))).trans h.c2, (hg.block _ (blk_lt h.c3) (hne _ (by omega))).trans h.c3, ownsRow_keep h.row fun k hk => ?_, h.par, h.low.grown hg (Nat.le_of_lt (blk_lt h.c0)) (fun k e => by cases e; rcases hr with hr | hr <;> omega), Nat.le_trans h.size hg.size⟩
  have hl := h.row.lt k hk
  refine hg.block k hl.2 fun e => ?_
  cases e
  rcases hr with hr | ⟨_, hr⟩
  · omega
  · rcases h.row.2 with ⟨hn, _⟩ | ⟨g, cap, cur, hv, _, hb, _⟩
    · rw [hn] at hk; cases hk
    · rw [hv] at hk
      have : g = r := by simpa [Value.ownBlock] using hk
      subst this
      have := hr _ hb
      cases this
theorem par_end (w : World) : BearsAll (w.heap.size + 1 + 1 + 1 + 1) (w.heap.size + 1 + 1 + 1 + 1 + 1) (ParEnd w) := by
  intro pre X Y r h hg hr
  have hne : ∀ k, k ≤ w.heap.size + 3 → some k ≠ some r := fun k hk e => by cases e; rcases hr with hr | hr <;> omega
  obtain ⟨p0, x, E, g1, g2, g3, g4⟩ := h.got
  exact ⟨⟨p0, x, E, g1, g2, g3, (hg.block _ (blk_lt g4) (hne _ (by omega))).trans g4⟩, (hg.block _ (blk_lt h.c0) (hne _ (by omega))).trans h.c0, (hg.block _ (blk_lt h.c2) (hne _ (by omega))).trans h.c2, h.low.grown hg (Nat.le_of_lt (blk_lt h.c0)) (fun k e => by cases e; rcases hr with hr | hr <;> omega)⟩

theorem own_form {w : World} {base : Nat} {e : TypeId} {s n : Nat} {v : Value} {xs : List Value} (h : w.ownsRow base e s v n xs) : ∃ sa cap, v = .slice sa n cap := by
  rcases h.2 with ⟨rfl, rfl⟩ | ⟨g, cap, cur, rfl, _⟩
  · exact ⟨none, 0, rfl⟩
  · exact ⟨some ⟨g, 0, none⟩, cap, rfl⟩
theorem row_not {w : World} {base k : Nat} {e : TypeId} {s n : Nat} {v : Value} {xs : List Value} (h : w.ownsRow base e s v n xs) (hk : k < base) : some k ≠ v.ownBlock := fun he => by
  have := (h.lt k he.symm).1
  omega
theorem Wrote.keep3 {X Y : World} {b : Nat} {o : Obj} (h : Wrote Nil X Y) (hb : X.heap[b]? = some o) : Y.heap[b]? = some o := (h.block b (blk_lt hb) id).trans hb
theorem row_cells {w : World} {base j : Nat} {e : TypeId} {s n : Nat} {v : Value} {xs : List Value} {o : Obj} (h : w.ownsRow base e s v n xs) (hk : v.ownBlock = some j) (ho : w.heap[j]? = some o) : o.isCells = true := by
  rcases h.2 with ⟨hn, _⟩ | ⟨g, cap, cur, hv, _, hb, _⟩
  · rw [hn] at hk; cases hk
  · rw [hv] at hk
    obtain rfl : g = j := by simpa [Value.ownBlock] using hk
    rw [hb] at ho
    cases ho
    rfl
/-- three variables side by side, stored -/
structure Set3 (N : Nat) (X Y : World) (v0 v1 v2 : Value) : Prop where
  b0 : ∀ c T, X.heap[N]? = some (.cells #[c] T (0, 0)) → Y.heap[N]? = some (.cells #[v0] T (0, 0))
  b1 : ∀ c T, X.heap[N + 1]? = some (.cells #[c] T (0, 0)) → Y.heap[N + 1]? = some (.cells #[v1] T (0, 0))
  b2 : ∀ c T, X.heap[N + 1 + 1]? = some (.cells #[c] T (0, 0)) → Y.heap[N + 1 + 1]? = some (.cells #[v2] T (0, 0))
  keeps : KeepsOthers X Y
  below : ∀ w, Below N w X → Below N w Y
theorem set3_any (N : Nat) (X : World) (v0 v1 v2 : Value) : Set3 N X ((((X.setCell ⟨N, 0, none⟩ v0).setCell ⟨N + 1, 0, none⟩ v1).setCell ⟨N + 1 + 1, 0, none⟩ v2).drew) v0 v1 v2 := by
  refine ⟨fun c T h => ?_, fun c T h => ?_, fun c T h => ?_, (((KeepsOthers.setCell _ _ _).trans (KeepsOthers.setCell _ _ _)).trans (KeepsOthers.setCell _ _ _)).trans (KeepsOthers.drew _), fun w h => ?_⟩
  · have h1 := blk_setCell h 0 v0
    exact ((blk_setCell_other _ ⟨N + 1 + 1, 0, none⟩ _ N (by simp only; omega)).trans (blk_setCell_other _ ⟨N + 1, 0, none⟩ _ N (by simp only; omega))).trans (by simpa using h1)
  · have h1 := blk_setCell ((blk_setCell_other X ⟨N, 0, none⟩ v0 (N + 1) (by simp only; omega)).trans h) 0 v1
    exact (blk_setCell_other _ ⟨N + 1 + 1, 0, none⟩ _ (N + 1) (by simp only; omega)).trans (by simpa using h1)
  · have h1 := blk_setCell (((blk_setCell_other _ ⟨N + 1, 0, none⟩ v1 (N + 1 + 1) (by simp only; omega)).trans (blk_setCell_other X ⟨N, 0, none⟩ v0 (N + 1 + 1) (by simp only; omega))).trans h) 0 v2
    exact (by simpa using h1 : ((((X.setCell ⟨N, 0, none⟩ v0).setCell ⟨N + 1, 0, none⟩ v1).setCell ⟨N + 1 + 1, 0, none⟩ v2)).heap[N + 1 + 1]? = _)
  · exact (((h.setCell (p := ⟨N, 0, none⟩) (Nat.le_refl _) v0).setCell (p := ⟨N + 1, 0, none⟩) (by simp only; omega) v1).setCell (p := ⟨N + 1 + 1, 0, none⟩) (by simp only; omega) v2).drew

/-- the frame between the rounds -/
def parT (s : List UInt8) (N : Nat) (v u : Value) : Array Value :=
  #[.string (strB s), undef, .pointer (some ⟨N, 0, none⟩), .pointer (some ⟨N + 1, 0, none⟩), .pointer (some ⟨N + 1 + 1, 0, none⟩), .pointer (some ⟨N + 1 + 1 + 1, 0, none⟩), v, undef, undef, .string (strB s), .func (.func 35) #[] #[.pointer (some ⟨N + 1 + 1 + 1 + 1, 0, none⟩)], u, undef, undef, undef, undef, undef, undef, undef, undef, undef, undef, undef, undef, undef, undef, undef, undef]
def ParAx (N : Nat) (s : List UInt8) (x : LE) (a : Act) (_ : World) : Prop := a = { tmps := parT s N (.string (strB x.1)) (.string (strB x.1)), defers := [] }
theorem par_ax (N : Nat) (s : List UInt8) (x : LE) (a : Act) (Bs L : Nat) : BearsAll Bs L (fun (_ : Unit) W => ParAx N s x a W) := fun _ X Y r h _ _ => h

/-- the entries that Parse hands back -/
def gotE (s : List UInt8) : List Ent := if (parseL (linesOf s)).2 then (parseL (linesOf s)).1 else []
def ParsePost (w : World) (s : List UInt8) (e : Ending) (w' : World) : Prop :=
  ∃ sa cap, e = .returned (.tuple #[.slice sa (gotE s).length cap, .int .i64 ((parseL (linesOf s)).1.length : Nat), .int .i64 (if (parseL (linesOf s)).2 then 0 else 4)]) ∧ (gotE s).length ≤ cap ∧ RecsAt eC 4 w' sa (gotE s).length (gotE s) ∧ Wrote Nil w w'

set_option maxRecDepth 100000 in
set_option maxHeartbeats 4000000 in
theorem tr_parse {w : World} (hG : Glob2 w) (s : List UInt8) (hs : s.length ≤ 10000) :
    Calls Tryd.prog 13 #[.string (strB s)] w (ParsePost w s) := by
  refine (callsIn_wide (n := 8)).1 ?_
  have hro : Fence.wide.round = none := rfl
  have hmix : Tryd.prog.follows .mixedOrders = true := by kernel_rfl
  obtain ⟨i0, hi, hz0, hz1, hz2⟩ := info_parts3 info_en
  have hfew := linesOf_few s
  refine callsIn_of_wp_marks Tryd.func13 rfl trivial ?_ hro
  simp only [Tryd.ntmps13, List.size_toArray, List.length_cons, List.length_nil, Nat.reduceAdd, Nat.reduceSub, Array.replicate_succ, Array.replicate_zero, List.push_toArray, List.append_toArray, List.nil_append, List.cons_append]
  gi_wp2_with (refine ⟨trivial, ?_⟩; gi_at_call 28; refine (lines_any Fence.wide (8 - 1) trivial hro _ _).mono ?_; rintro e w' ⟨rfl, rfl⟩)
  obtain ⟨W0, hW0⟩ : ∃ W0, W0 = ((((w.alloc (.cells #[.slice none 0 0] 22)).alloc (.cells #[.int .i64 0] 3)).alloc (.cells #[.int .i64 0] 30)).alloc (.cells #[.slice none 0 0] 22)).alloc (.cells #[.string (strB s)] 9) := ⟨_, rfl⟩
  have hsz : W0.heap.size = w.heap.size + 1 + 1 + 1 + 1 + 1 := by rw [hW0]; simp
  have n1 := blk_alloc_new (w.alloc (.cells #[.slice none 0 0] 22)) (.cells #[.int .i64 0] 3)
  have n2 := blk_alloc_new ((w.alloc (.cells #[.slice none 0 0] 22)).alloc (.cells #[.int .i64 0] 3)) (.cells #[.int .i64 0] 30)
  have n3 := blk_alloc_new (((w.alloc (.cells #[.slice none 0 0] 22)).alloc (.cells #[.int .i64 0] 3)).alloc (.cells #[.int .i64 0] 30)) (.cells #[.slice none 0 0] 22)
  have n4 := blk_alloc_new ((((w.alloc (.cells #[.slice none 0 0] 22)).alloc (.cells #[.int .i64 0] 3)).alloc (.cells #[.int .i64 0] 30)).alloc (.cells #[.slice none 0 0] 22)) (.cells #[.string (strB s)] 9)
  simp only [World.size_alloc] at n1 n2 n3 n4
  have hlow : Below w.heap.size w W0 := by
    rw [hW0]
    exact (((((Below.refl _ w).alloc (Nat.le_refl _) _).alloc (by simp) _).alloc (by simp; omega) _).alloc (by simp; omega) _).alloc (by simp; omega) _
  have hst : ParSt w [] [] (.slice none 0 0) W0 := by
    refine ⟨?_, ?_, ?_, ?_, World.ownsRow_nil _ _ _ _, rfl, hlow, by omega⟩
    · rw [hW0, Below.heap_alloc _ _ _ (by simp; try omega), Below.heap_alloc _ _ _ (by simp; try omega), Below.heap_alloc _ _ _ (by simp; try omega), Below.heap_alloc _ _ _ (by simp; try omega)]
      exact blk_alloc_new w _
    · rw [hW0, Below.heap_alloc _ _ _ (by simp; try omega), Below.heap_alloc _ _ _ (by simp; try omega), Below.heap_alloc _ _ _ (by simp; try omega)]
      exact n1
    · rw [hW0, Below.heap_alloc _ _ _ (by simp; try omega), Below.heap_alloc _ _ _ (by simp; try omega)]
      exact n2
    · rw [hW0, Below.heap_alloc _ _ _ (by simp; try omega)]
      exact n3
  have hbox : W0.heap[w.heap.size + 1 + 1 + 1 + 1]? = some (.cells #[.string (strB s)] 9 (0, 0)) := by rw [hW0]; exact n4
  have hB1 := par_bears w
  have hB2 := par_end w
  rw [← hsz] at hB1 hB2
  rw [← hW0]
  clear hW0 n1 n2 n3 n4
  refine wpIn_rangeC hro (by omega) (gf := 35) (Bs := w.heap.size + 1 + 1 + 1 + 1) (B0 := w.heap.size) (w0 := W0) rfl trivial (enters_of Tryd.func35 (by kernel_rfl) rfl)
    (lines_stops (8 - 1) (by omega) _ s hs W0 w.heap.size hbox) (by omega) (by omega) (Below.refl _ _) (fun _ => rfl) (fun pre W => ∃ E dv, ParSt w pre E dv W) (ParEnd w) hB1 hB2 ⟨[], _, hst⟩ (ParAx w.heap.size s) (fun x a => par_ax _ _ _ _ _ _) ?assign ?body ?done ?stop
  case assign =>
    rintro l pre ⟨x, hx⟩ W K hI hK
    dsimp only [encS]
    gi_wp2
    exact hK _ _ (KeepsFrom.refl _ _) (Kept.refl _ _ _) hI rfl
  case body =>
    rintro l pre ⟨x, hx⟩ a' W hsW ⟨E, dv, hI⟩ hA hlt
    unfold ParAx at hA
    subst hA
    change Code.wpIn _ _ _ _ _ { tmps := parT s w.heap.size (.string (strB x)) (.string (strB x)), defers := [] } W
    unfold parT
    have c1 := tr_read (hG.after (Wrote.ofBelow hI.low)) x hx
    unfold ReadPost at c1
    obtain ⟨sa, cap, rfl, hcap0, hrecs, _⟩ := own_recs eC_len hI.row (by decide)
    cases hrd : rd x with
    | none =>
      rw [hrd] at c1
      have HI := Lib.hid (And.intro hI (And.intro hrd hrecs))
      clear hI hrd hrecs
      gi_wp2_with (refine ⟨trivial, ?_⟩; gi_at_call 29; refine (CallsIn.inRound l ((callsIn_wide (n := 8 - 1 - 1 - 1)).2 c1)).mono ?_; rintro e w3 ⟨y, rfl, hy, hW3⟩; have H3 := Lib.hid hW3; clear hW3 hy; clear c1)
      have hWX := H3.out.alloc (.cells #[.int .i64 y.k, .int .i64 y.t, .int .i64 y.n, .bool y.ld] 41)
      generalize w3.alloc (.cells #[.int .i64 y.k, .int .i64 y.t, .int .i64 y.n, .bool y.ld] 41) = X at hWX ⊢
      have b0 := (hWX.block _ (blk_lt HI.out.1.c0) id).trans HI.out.1.c0
      have b1 := (hWX.block _ (blk_lt HI.out.1.c1) id).trans HI.out.1.c1
      have b2 := (hWX.block _ (blk_lt HI.out.1.c2) id).trans HI.out.1.c2
      have b3 := (hWX.block _ (blk_lt HI.out.1.c3) id).trans HI.out.1.c3
      have k0 : X.cell? ⟨w.heap.size, 0, none⟩ = some (.slice none 0 0) := blk_cell b0 0
      have k1 : X.cell? ⟨w.heap.size + 1, 0, none⟩ = some (.int .i64 0) := blk_cell b1 0
      have k2 : X.cell? ⟨w.heap.size + 1 + 1, 0, none⟩ = some (.int .i64 0) := blk_cell b2 0
      have k3 : X.cell? ⟨w.heap.size + 1 + 1 + 1, 0, none⟩ = some (.slice sa E.length cap) := blk_cell b3 0
      have f0 : X.frozen? ⟨w.heap.size, 0, none⟩ = false := blk_frozen b0 0
      have f1 : X.frozen? ⟨w.heap.size + 1, 0, none⟩ = false := blk_frozen b1 0
      have f2 : X.frozen? ⟨w.heap.size + 1 + 1, 0, none⟩ = false := blk_frozen b2 0
      have HX := Lib.hid (And.intro hWX (And.intro b0 (And.intro b1 b2)))
      clear hWX b0 b1 b2 b3 H3
      gi_region_with_o (fail)
      all_goals
        gi_wp2
        have hS := set3_any w.heap.size X (.slice none 0 0) (.int .i64 (E.length : Nat)) (.int .i64 4)
        have hlo : Below w.heap.size w X := HI.out.1.low.trans (HX.out.1.below (Nat.le_of_lt (blk_lt HI.out.1.c0)) (fun _ _ => id))
        exact ⟨(keeps_ofNil HX.out.1 _).trans (hS.keeps.from _), ⟨⟨pre, ⟨x, hx⟩, E, rfl, HI.out.1.par, HI.out.2.1, hS.b1 _ _ HX.out.2.2.1⟩, hS.b0 _ _ HX.out.2.1, hS.b2 _ _ HX.out.2.2.2, hS.below _ hlo⟩⟩
    | some y =>
      rw [hrd] at c1
      have hEl : E.length ≤ 10000 := by
        have h1 := parseL_len (lns pre)
        rw [hI.par, lns_len] at h1
        simp only at h1
        omega
      have hs5 := hI.size
      have HI := Lib.hid (And.intro hI (And.intro hrd hrecs))
      clear hI hrd hrecs
      gi_wp2_with (first
        | (refine ⟨trivial, ?_⟩; gi_at_call 29; refine (CallsIn.inRound l ((callsIn_wide (n := 8 - 1 - 1 - 1)).2 c1)).mono ?_; rintro e w3 ⟨y0, rfl, hy, hW3⟩; obtain rfl := hy _ rfl; have k3 : w3.cell? ⟨w.heap.size + 1 + 1 + 1, 0, none⟩ = some (.slice sa E.length cap) := hW3.old (blk_cell HI.out.1.c3 0); have k4 : (w3.alloc (.cells #[.int .i64 y0.k, .int .i64 y0.t, .int .i64 y0.n, .bool y0.ld] 41)).cell? ⟨w.heap.size + 1 + 1 + 1, 0, none⟩ = some (.slice sa E.length cap) := ((Wrote.refl Nil w3).alloc _).old k3; have hWW := fun (o1 o2 : Obj) => ((hW3.alloc o1).alloc o2); have H3 := Lib.hid hWW; clear hW3 hy hWW c1)
        | (gi_at_builtin; refine wpListIn_append_own _ rfl _ _ 22 rfl (w.heap.size + 1 + 1 + 1 + 1 + 1) 41 i0 (.agg #[.int .i64 0, .int .i64 0, .int .i64 0, .bool false]) 4 32 Tryd.underlying22 hi hz0 hz1 hz2 rfl (by decide) (.slice sa E.length cap) E.length (E.flatMap eC) rfl (ownsRow_keep HI.out.1.row fun j hj => (H3.out _ _).block j (HI.out.1.row.lt j hj).2 id) ⟨w3.heap.size + 1, 0, none⟩ 1 1 (eC y0) rfl rfl (news_at _ _ _ _ (by simp)) (eC_one _) (by unfold maxLen; omega) (by omega) (Nat.le_trans hs5 (H3.out _ _).size) ?_; intro v' w6 hown hgrow hnil; obtain ⟨sa', cap', rfl⟩ := own_form hown; have b6 := (hgrow.block _ (blk_lt ((H3.out _ _).keep3 HI.out.1.c3)) (row_not HI.out.1.row (by omega))).trans ((H3.out _ _).keep3 HI.out.1.c3); have k6 := blk_cell b6 0; have f6 := blk_frozen b6 0; have H6 := Lib.hid (And.intro hown (And.intro hgrow b6)); clear hown hgrow hnil b6))
      have row5 := ownsRow_keep HI.out.1.row fun j hj => (H3.out (.cells #[.int .i64 y0.k, .int .i64 y0.t, .int .i64 y0.n, .bool y0.ld] 41) (.cells (eC y0).toArray 41)).block j (HI.out.1.row.lt j hj).2 id
      have hN := blk_lt HI.out.1.c0
      have hold : ∀ k o, k < w.heap.size + 1 + 1 + 1 + 1 + 1 → k ≠ w.heap.size + 1 + 1 + 1 → W.heap[k]? = some o → (w6.setCell ⟨w.heap.size + 1 + 1 + 1, 0, none⟩ (.slice sa' (E.length + 1) cap')).heap[k]? = some o := fun k o hk hne ho =>
        (blk_setCell_other _ _ _ _ hne).trans ((H6.out.2.1.block k (blk_lt ((H3.out _ _).keep3 ho)) (row_not row5 hk)).trans ((H3.out _ _).keep3 ho))
      have hbel : Below w.heap.size W (w6.setCell ⟨w.heap.size + 1 + 1 + 1, 0, none⟩ (.slice sa' (E.length + 1) cap')) :=
        (((H3.out _ _).below (B := w.heap.size) (Nat.le_of_lt hN) (fun _ _ => id)).grown H6.out.2.1 (Nat.le_trans (Nat.le_of_lt hN) (H3.out _ _).size) (fun k e => by have := (row5.lt k e).1; omega)).setCell (p := ⟨w.heap.size + 1 + 1 + 1, 0, none⟩) (by simp only; omega) _
      have hc3 := blk_setCell H6.out.2.2 0 (.slice sa' (E.length + 1) cap')
      have hrow := ownsRow_setCell_below H6.out.1 (a := ⟨w.heap.size + 1 + 1 + 1, 0, none⟩) (by simp only; omega) (.slice sa' (E.length + 1) cap')
      refine ⟨((keeps_ofNil (H3.out _ _) _).trans ((KeepsOthers.of_grownBy H6.out.2.1 (fun j o e ho => row_cells row5 e ho)).from _)).trans ((KeepsOthers.setCell _ _ _).from _), ⟨hbel, fun o ho => hold _ o (by omega) (by omega) ho⟩, E ++ [y0], .slice sa' (E.length + 1) cap', ?_⟩
      refine ⟨hold _ _ (by omega) (by omega) HI.out.1.c0, hold _ _ (by omega) (by omega) HI.out.1.c1, hold _ _ (by omega) (by omega) HI.out.1.c2, by simpa using hc3, ?_, by rw [lns_snoc]; exact parseL_snoc HI.out.1.par HI.out.2.1, HI.out.1.low.trans hbel, Nat.le_trans HI.out.1.size hbel.size⟩
      rw [List.length_append, List.flatMap_append]
      simpa using hrow
  case done =>
    rintro Dk ys W hD hys ⟨E, dv, hI⟩ hK
    have hpar := hI.par
    rw [hys] at hpar
    obtain ⟨sa, cap, rfl, hcap0, hrecs, hsab⟩ := own_recs eC_len hI.row (by decide)
    have hcap : E.length ≤ cap := by
      rcases hI.row.2 with ⟨h1, h2⟩ | ⟨g, cap', cur, h1, _, _, h2, _⟩
      · rw [h2]; exact Nat.zero_le _
      · cases h1; exact h2
    have hnD : ∀ b, sa = some b → b.block ≠ Dk := fun b hb e => by
      rcases hI.row.2 with ⟨hn, _⟩ | ⟨g, cap', cur, hv, _, hg, _⟩
      · simp only [Value.slice.injEq] at hn; rw [hn.1] at hb; cases hb
      · simp only [Value.slice.injEq] at hv
        rw [hv.1] at hb
        cases hb
        simp only at e
        subst e
        rw [hK] at hg
        cases hg
    have k0 : W.cell? ⟨w.heap.size, 0, none⟩ = some (.slice none 0 0) := blk_cell hI.c0 0
    have k1 : W.cell? ⟨w.heap.size + 1, 0, none⟩ = some (.int .i64 0) := blk_cell hI.c1 0
    have k2 : W.cell? ⟨w.heap.size + 1 + 1, 0, none⟩ = some (.int .i64 0) := blk_cell hI.c2 0
    have k3 : W.cell? ⟨w.heap.size + 1 + 1 + 1, 0, none⟩ = some (.slice sa E.length cap) := blk_cell hI.c3 0
    have f0 : W.frozen? ⟨w.heap.size, 0, none⟩ = false := blk_frozen hI.c0 0
    have f1 : W.frozen? ⟨w.heap.size + 1, 0, none⟩ = false := blk_frozen hI.c1 0
    have f2 : W.frozen? ⟨w.heap.size + 1 + 1, 0, none⟩ = false := blk_frozen hI.c2 0
    have HI := Lib.hid (And.intro hI (And.intro hpar (And.intro hK (And.intro hrecs (And.intro hsab (And.intro hcap hnD))))))
    clear hI hpar hK hrecs hsab hcap hnD hB1 hB2 hst hbox hlow hys
    gi_wp2
    gi_region_with_o (fail)
    all_goals
      gi_wp2
      obtain ⟨hI, hpar, hK, hrecs, hsab, hcap, hnD⟩ := HI.out
      have hS := set3_any w.heap.size W (.slice sa E.length cap) (.int .i64 (E.length : Nat)) (.int .i64 0)
      have hw : Wrote (fun k => k = w.heap.size ∨ k = w.heap.size + 1 ∨ k = w.heap.size + 1 + 1 ∨ k = Dk) W ((((W.setCell ⟨w.heap.size, 0, none⟩ (.slice sa E.length cap)).setCell ⟨w.heap.size + 1, 0, none⟩ (.int .i64 (E.length : Nat))).setCell ⟨w.heap.size + 1 + 1, 0, none⟩ (.int .i64 0)).drew) :=
        ((((Wrote.refl _ W).setCell ⟨w.heap.size, 0, none⟩ _ (fun _ => .inl rfl)).setCell ⟨w.heap.size + 1, 0, none⟩ _ (fun _ => .inr (.inl rfl))).setCell ⟨w.heap.size + 1 + 1, 0, none⟩ _ (fun _ => .inr (.inr (.inl rfl)))).drew
      generalize (((W.setCell ⟨w.heap.size, 0, none⟩ (.slice sa E.length cap)).setCell ⟨w.heap.size + 1, 0, none⟩ (.int .i64 (E.length : Nat))).setCell ⟨w.heap.size + 1 + 1, 0, none⟩ (.int .i64 0)).drew = V at hS hw ⊢
      have hK' := hS.keeps.same Dk _ hK rfl
      have hg' := grownBy_putObj' V Dk (.deferred none)
      have hnc : ∀ r, some Dk = some r → ∃ o : Obj, V.heap[r]? = some o ∧ o.isCells = false := fun r e => by cases e; exact ⟨_, hK', rfl⟩
      have d0 : (V.putObj Dk (.deferred none)).cell? ⟨w.heap.size, 0, none⟩ = some (.slice sa E.length cap) := cell_kept (blk_cell (hS.b0 _ _ hI.c0) 0) hg' hnc
      have d1 : (V.putObj Dk (.deferred none)).cell? ⟨w.heap.size + 1, 0, none⟩ = some (.int .i64 (E.length : Nat)) := cell_kept (blk_cell (hS.b1 _ _ hI.c1) 0) hg' hnc
      have d2 : (V.putObj Dk (.deferred none)).cell? ⟨w.heap.size + 1 + 1, 0, none⟩ = some (.int .i64 0) := cell_kept (blk_cell (hS.b2 _ _ hI.c2) 0) hg' hnc
      have hw2 := hw.grown hg' (fun k e hk => by cases e; exact .inr (.inr (.inr rfl)))
      have hlo : Wrote Nil w (V.putObj Dk (.deferred none)) := (Wrote.ofBelow (hS.below _ hI.low)).grown hg' (fun k e hk => by cases e; omega)
      have hgE : gotE s = E := by unfold gotE; rw [hpar]; rfl
      refine ⟨by simp, .inl ⟨_, _, rfl, run_takeDeferred hK', ?_⟩⟩
      refine ⟨.tuple #[.slice sa E.length cap, .int .i64 (E.length : Nat), .int .i64 0], by simp [results, Tryd.f13, go_sem, d0, d1, d2], ?_⟩
      have hrV := hrecs.wrote hw2 fun b hb => by
        have h1 := (hsab b hb).1
        have h2 := hnD b hb
        rintro (h | h | h | h)
        · omega
        · omega
        · omega
        · exact h2 h
      exact ⟨sa, cap, by rw [hgE, hpar]; rfl, by rw [hgE]; exact hcap, by rw [hgE]; exact hrV, hlo⟩
  case stop =>
    rintro Dk pre W hD ⟨k, hpre⟩ hI hK
    gi_wp2
    obtain ⟨p0, x, E, rfl, hpar, hrd, g1⟩ := hI.got
    rw [lns_snoc] at hpre
    have hls : linesOf s = lns p0 ++ x.1 :: (linesOf s).drop k := by
      have h1 := List.take_append_drop k (linesOf s)
      rw [← hpre, List.append_assoc] at h1
      exact h1.symm
    have hpf := parseL_fail ((linesOf s).drop k) hpar hrd
    rw [← hls] at hpf
    have hg' := grownBy_putObj' W Dk (.deferred none)
    have hnc : ∀ r, some Dk = some r → ∃ o : Obj, W.heap[r]? = some o ∧ o.isCells = false := fun r e => by cases e; exact ⟨_, hK, rfl⟩
    have d0 : (W.putObj Dk (.deferred none)).cell? ⟨w.heap.size, 0, none⟩ = some (.slice none 0 0) := cell_kept (blk_cell hI.c0 0) hg' hnc
    have d1 : (W.putObj Dk (.deferred none)).cell? ⟨w.heap.size + 1, 0, none⟩ = some (.int .i64 (E.length : Nat)) := cell_kept (blk_cell g1 0) hg' hnc
    have d2 : (W.putObj Dk (.deferred none)).cell? ⟨w.heap.size + 1 + 1, 0, none⟩ = some (.int .i64 4) := cell_kept (blk_cell hI.c2 0) hg' hnc
    have hlo : Wrote Nil w (W.putObj Dk (.deferred none)) := (Wrote.ofBelow hI.low).grown hg' (fun k e hk => by cases e; omega)
    have hgE : gotE s = [] := by unfold gotE; rw [hpf]; rfl
    refine ⟨by simp, .inl ⟨_, _, rfl, run_takeDeferred hK, ?_⟩⟩
    refine ⟨.tuple #[.slice none 0 0, .int .i64 (E.length : Nat), .int .i64 4], by simp [results, Tryd.f13, go_sem, d0, d1, d2], ?_⟩
    exact ⟨none, 0, by rw [hgE, hpf]; rfl, by rw [hgE]; exact Nat.le_refl _, by rw [hgE]; exact ⟨rfl, fun _ => rfl, fun b hb => nomatch hb⟩, hlo⟩
end Go.Proofs.YtihlokhejopphaaDoor
