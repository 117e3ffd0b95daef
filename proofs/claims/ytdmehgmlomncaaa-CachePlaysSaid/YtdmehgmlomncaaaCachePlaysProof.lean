/- For every input the Go function CachePlays of weighlocklaw03 returns true, and its arguments read afterwards as before. Conditions: none. -/
import Derived.Test.YtdmehgmlomncaaaRows
import Derived.WalkKit
import Derived.ProofKit
import Derived.OpenShut
import Derived.ChangeOld
import Derived.Below
import Derived.Carry
import Derived.Test.YtdmehgmlomncaaaCacheLaw
namespace Go.Proofs.Ytdmehgmlomncaaa.cachePlays
open Go.ChangeShapes Go.WideShapes Go.ChangeAt Go.RowKit
set_option linter.unusedVariables false

theorem own : ownKnob Try.prog.godebug = none := by kernel_rfl
theorem laidOut : laidOutB Try.prog = true := by kernel_rfl

/-! the walk -/
theorem touchC_len (cs : List Nat) (t a : Nat) (wr : Bool) : (touchC cs t a wr).length = cs.length := by simp [touchC]
theorem touchM_len (cs ms : List Nat) (t a : Nat) (wr : Bool) : (touchM cs ms t a wr).length = ms.length := by unfold touchM; split <;> simp
theorem drewN_two (w : World) (a b : Nat) : (w.drewN a).drewN b = w.drewN (a + b) := by simp [World.drewN, Nat.add_assoc]
theorem sumN_set {ms : List Nat} {t : Nat} (ht : t < ms.length) : sumN (ms.set t (ms.getD t 0 + 1)) = sumN ms + 1 := by
  induction ms generalizing t with
  | nil => simp at ht
  | cons x r ih =>
    cases t with
    | zero => simp [sumN]; omega
    | succ t =>
      have := ih (t := t) (by simpa using ht)
      simp only [List.set_cons_succ, List.getD_cons_succ, sumN, this]
      omega
/-- the law's own counts: eight numbers -/
def rowM (ms : List Nat) : Array Value := ((List.range 8).map fun j => Value.int .i64 ((ms.getD j 0 : Nat) : Int)).toArray
def bump (ms : List Nat) (t : Nat) (b : Bool) : List Nat := if b then ms.set t (ms.getD t 0 + 1) else ms
theorem bump_len (ms : List Nat) (t : Nat) (b : Bool) : (bump ms t b).length = ms.length := by cases b <;> simp [bump]
theorem rowM_set {ms : List Nat} {t : Nat} (ht : t < ms.length) (v : Nat) : (rowM ms).setIfInBounds t (.int .i64 (v : Int)) = rowM (ms.set t v) := by
  unfold rowM
  apply Array.ext
  · simp
  · intro i h1 h2
    simp only [List.setIfInBounds_toArray, List.getElem_toArray]
    rw [List.getElem_set]
    simp only [List.getElem_map, List.getElem_range]
    by_cases e : t = i
    · subst e; simp [ht]
    · simp [e, List.getElem?_set]

/-- what is known in the law: the cache has seen Dc and has the counts mc; the law's list is Dd, its counts are ma -/
structure PSt (w0 : World) (base c bc bm hb threads words : Nat) (w : World) (Dc : List Tch) (mc : List Nat) (Dd : List Tch) (dv : Value) (ma : List Nat) (lim : Nat) : Prop where
  cache : ∃ cs, CacheAt w c bc bm cs mc lim ∧ cs.length = words ∧ Rel cs threads Dc
  ml : mc.length = threads
  arr : w.heap[hb]? = some (.cells (rowM ma) 29 (0, 0))
  own : w.ownsRow base 32 3 dv Dd.length (Dd.flatMap tchCells)
  wrote : Wrote Nil w0 w
  size : base ≤ w.heap.size
  places : c < base ∧ bc < base ∧ bm < base ∧ hb < base ∧ w0.heap.size ≤ bc ∧ w0.heap.size ≤ bm ∧ w0.heap.size ≤ hb ∧ w0.heap.size ≤ base ∧ c ≠ hb ∧ bc ≠ hb ∧ bm ≠ hb

/-- the round's own touch, as the law and as the reference have it -/
structure Scr (w : World) (q : Nat) (x : Tch) : Prop where
  law : w.heap[q]? = some (.cells #[.int .i64 x.1, .int .i64 x.2.1, .bool x.2.2] 31 (0, 0))
  ref : w.heap[q + 1]? = some (.cells #[.int .i64 x.1, .int .i64 x.2.1, .bool x.2.2] 32 (0, 0))
namespace Scr
variable {w w' : World} {q : Nat} {x : Tch}
theorem wrote (h : Scr w q x) {S : Nat → Prop} (k : Wrote S w w') (n0 : ¬ S q) (n1 : ¬ S (q + 1)) : Scr w' q x :=
  ⟨(k.block q (blk_lt h.law) n0).trans h.law, (k.block (q + 1) (blk_lt h.ref) n1).trans h.ref⟩
theorem grown (h : Scr w q x) {row : Option Nat} (hg : w.grownBy w' row) (hr : ∀ k, row = some k → k < q) : Scr w' q x :=
  ⟨(hg.block q (blk_lt h.law) (fun e => by have := hr q e.symm; omega)).trans h.law, (hg.block (q + 1) (blk_lt h.ref) (fun e => by have := hr (q + 1) e.symm; omega)).trans h.ref⟩
theorem l0 (h : Scr w q x) : w.cell? ⟨q, 0, none⟩ = some (.int .i64 x.1) := by rw [blk_cell h.law]; rfl
theorem l1 (h : Scr w q x) : w.cell? ⟨q, 1, none⟩ = some (.int .i64 x.2.1) := by rw [blk_cell h.law]; rfl
theorem l2 (h : Scr w q x) : w.cell? ⟨q, 2, none⟩ = some (.bool x.2.2) := by rw [blk_cell h.law]; rfl
theorem r0 (h : Scr w q x) : w.cell? ⟨q + 1, 0, none⟩ = some (.int .i64 x.1) := by rw [blk_cell h.ref]; rfl
theorem r1 (h : Scr w q x) : w.cell? ⟨q + 1, 1, none⟩ = some (.int .i64 x.2.1) := by rw [blk_cell h.ref]; rfl
theorem r2 (h : Scr w q x) : w.cell? ⟨q + 1, 2, none⟩ = some (.bool x.2.2) := by rw [blk_cell h.ref]; rfl
end Scr

namespace PSt
variable {w0 : World} {base c bc bm hb threads words : Nat} {w w' : World} {Dc Dd : List Tch} {mc ma : List Nat} {dv : Value} {lim : Nat}
theorem after (h : PSt w0 base c bc bm hb threads words w Dc mc Dd dv ma lim) (k : Wrote Nil w w') : PSt w0 base c bc bm hb threads words w' Dc mc Dd dv ma lim := by
  obtain ⟨cs, h1, h2, h3⟩ := h.cache
  exact ⟨⟨cs, h1.after k, h2, h3⟩, h.ml, (k.block hb (blk_lt h.arr) id).trans h.arr, ownsRow_keep h.own (fun j hj => k.block j (h.own.lt j hj).2 id), h.wrote.nil k, Nat.le_trans h.size k.size, h.places⟩
theorem lift {lim' : Nat} (h : PSt w0 base c bc bm hb threads words w Dc mc Dd dv ma lim) (hl : lim ≤ lim') : PSt w0 base c bc bm hb threads words w Dc mc Dd dv ma lim' := by
  obtain ⟨cs, h1, h2, h3⟩ := h.cache
  exact ⟨⟨cs, h1.lift hl, h2, h3⟩, h.ml, h.arr, h.own, h.wrote, h.size, h.places⟩
theorem slice (h : PSt w0 base c bc bm hb threads words w Dc mc Dd dv ma lim) : ∃ sa cap, dv = .slice sa Dd.length cap ∧ RecsAt tchCells 3 w sa Dd.length Dd := by
  obtain ⟨sa, cap, h1, h2, h3, h4⟩ := own_recs tch_len h.own (by decide)
  exact ⟨sa, cap, h1, h3⟩
theorem count (h : PSt w0 base c bc bm hb threads words w Dc mc Dd dv ma lim) {t : Nat} (ht : t < 8) : w.cell? ⟨hb, t, none⟩ = some (.int .i64 ((ma.getD t 0 : Nat) : Int)) := by
  rw [blk_cell h.arr]
  simp [rowM, ht]
theorem frozen (h : PSt w0 base c bc bm hb threads words w Dc mc Dd dv ma lim) (t : Nat) : w.frozen? ⟨hb, t, none⟩ = false := blk_frozen h.arr t
theorem bumped (h : PSt w0 base c bc bm hb threads words w Dc mc Dd dv ma lim) {t : Nat} (ht : t < ma.length) : PSt w0 base c bc bm hb threads words (w.setCell ⟨hb, t, none⟩ (.int .i64 (((ma.getD t 0 : Nat) : Int) + 1))) Dc mc Dd dv (bump ma t true) lim := by
  obtain ⟨cs, h1, h2, h3⟩ := h.cache
  obtain ⟨p1, p2, p3, p4, p5, p6, p7, p8, p9, p10, p11⟩ := h.places
  have k : Wrote (One hb) w (w.setCell ⟨hb, t, none⟩ (.int .i64 (((ma.getD t 0 : Nat) : Int) + 1))) := (Wrote.refl _ _).setCell _ _ fun _ => rfl
  refine ⟨⟨cs, h1.wrote k p9 p10 p11, h2, h3⟩, h.ml, ?_, ownsRow_keep h.own (fun j hj => k.block j (h.own.lt j hj).2 (fun e => by have := (h.own.lt j hj).1; cases e; omega)), h.wrote.one k p7, Nat.le_trans h.size k.size, h.places⟩
  rw [blk_setCell h.arr]
  have := rowM_set ht (ma.getD t 0 + 1)
  simp only [bump, if_pos]
  rw [← this]
  rfl
/-- behind the append -/
theorem grown (h : PSt w0 base c bc bm hb threads words w Dc mc Dd dv ma lim) {x : Tch} {v' : Value} (hown : w'.ownsRow base 32 3 v' (Dd.length + 1) (Dd.flatMap tchCells ++ tchCells x)) (hg : w.grownBy w' dv.ownBlock) :
    PSt w0 base c bc bm hb threads words w' Dc mc (Dd ++ [x]) v' ma lim := by
  obtain ⟨cs, h1, h2, h3⟩ := h.cache
  obtain ⟨p1, p2, p3, p4, p5, p6, p7, p8, p9, p10, p11⟩ := h.places
  have hb0 : ∀ k, k < base → dv.ownBlock ≠ some k := fun k hk e => by have := (h.own.lt k e).1; omega
  have blk : ∀ k, k < base → w'.heap[k]? = w.heap[k]? := fun k hk => hg.block k (Nat.lt_of_lt_of_le hk h.size) (fun e => hb0 k hk e.symm)
  refine ⟨⟨cs, h1.keep (blk c p1) (blk bc p2) (blk bm p3), h2, h3⟩, h.ml, (blk hb p4).trans h.arr, by simpa using hown, h.wrote.grown hg (fun k hk hl => hb0 k (by omega) hk), Nat.le_trans h.size hg.size, h.places⟩
end PSt

variable {w0 : World} {base c bc bm hb threads words : Nat} {w : World} {Dc Dd : List Tch} {mc ma : List Nat} {dv : Value} {lim : Nat}
def PMissPost (w0 : World) (base c bc bm hb threads words : Nat) (Dc : List Tch) (mc : List Nat) (Dd : List Tch) (dv : Value) (ma : List Nat) (lim q : Nat) (x : Tch) (b : Bool) (e : Ending) (w' : World) : Prop :=
  e = .returned (.bool b) ∧ PSt w0 base c bc bm hb threads words w' Dc mc Dd dv ma lim ∧ Scr w' q x
theorem p_miss {q : Nat} {x : Tch} (h : PSt w0 base c bc bm hb threads words w Dc mc Dd dv ma lim) (hs : Scr w q x) (hn : Dd.length ≤ 1000) (ht : threads ≤ 8) :
    Calls Try.prog 9 #[dv, .agg #[.int .i64 x.1, .int .i64 x.2.1, .bool x.2.2], .int .i64 threads] w (PMissPost w0 base c bc bm hb threads words Dc mc Dd dv ma lim q x (missL Dd x.1 x.2.1 x.2.2 threads)) := by
  obtain ⟨sa, cap, rfl, hr⟩ := h.slice
  refine (ref_miss hr (by omega) x.1 x.2.1 x.2.2 (by omega)).mono ?_
  rintro e w' ⟨he, hW⟩
  exact ⟨he, h.after hW, hs.wrote hW id id⟩
theorem p_touch {q t a : Nat} {B : Bool} (h : PSt w0 base c bc bm hb threads words w Dc mc Dd dv ma lim) (hs : Scr w q ((t : Int), (a : Int), B)) (hq : base ≤ q) (hl : lim < 1000) (ht : t < threads) (ha : a < words) :
    Calls Try.prog 10 #[.pointer (some ⟨c, 0, none⟩), .int .i64 t, .int .i64 a, .bool B] w
      (PMissPost w0 base c bc bm hb threads words (Dc ++ [((t : Int), (a : Int), B)]) (bump mc t (missL Dc t a B threads)) Dd dv ma (lim + 1) q ((t : Int), (a : Int), B) (missL Dc t a B threads)) := by
  obtain ⟨cs, h1, h2, h3⟩ := h.cache
  obtain ⟨p1, p2, p3, p4, p5, p6, p7, p8, p9, p10, p11⟩ := h.places
  have hml := h.ml
  refine (touch_there h1 t a B (by omega) (by omega) (by omega)).mono ?_
  have hr := h1.row_lt a
  rw [hml] at hr
  have hm := rel_miss h3 ht (by omega) hr B
  rintro e w' ⟨he, hC, hW⟩
  have hM : touchM cs mc t a B = bump mc t (missL Dc t a B threads) := by unfold touchM bump; rw [hm]
  rw [hM] at hC
  rw [hm] at he
  refine ⟨he, ⟨⟨_, hC, by rw [touchC_len]; exact h2, rel_touch h3 ht (by omega) B⟩, by rw [bump_len]; exact hml, (hW.block hb (blk_lt h.arr) (by intro e; rcases e with e | e <;> omega)).trans h.arr,
    ownsRow_keep h.own (fun j hj => hW.block j (h.own.lt j hj).2 (by have := (h.own.lt j hj).1; intro e; rcases e with e | e <;> omega)), h.wrote.trans hW (fun b hb x => by rcases x with x | x <;> omega), Nat.le_trans h.size hW.size, h.places⟩, ?_⟩
  exact hs.wrote hW (by intro e; rcases e with e | e <;> omega) (by intro e; rcases e with e | e <;> omega)
theorem p_touch_not {x : Tch} (h : PSt w0 base c bc bm hb threads words w Dc mc Dd dv ma lim) (hn : ¬(0 ≤ x.1 ∧ x.1 < threads ∧ 0 ≤ x.2.1 ∧ x.2.1 < words)) :
    Calls Try.prog 10 #[.pointer (some ⟨c, 0, none⟩), .int .i64 x.1, .int .i64 x.2.1, .bool x.2.2] w fun e w' => e = .returned (.bool false) ∧ w' = w := by
  obtain ⟨cs, h1, h2, h3⟩ := h.cache
  have hml := h.ml
  by_cases ht : 0 ≤ x.1 ∧ x.1 < mc.length
  · obtain ⟨t, e⟩ := Int.eq_ofNat_of_zero_le ht.1
    rw [e]
    exact touch_not2 h1 t x.2.1 x.2.2 (by omega) (by omega)
  · exact touch_not1 h1 x.1 x.2.1 x.2.2 ht
theorem p_misses (h : PSt w0 base c bc bm hb threads words w Dc mc Dd dv ma lim) (t : Nat) (ht : t < threads) (x : Nat) :
    Calls Try.prog 11 #[.pointer (some ⟨c, 0, none⟩), .int .i64 t] (w.drewN x) fun e w' => e = .returned (.int .i64 ((mc.getD t 0 : Nat) : Int)) ∧ ∃ n, w' = w.drewN n := by
  obtain ⟨cs, h1, h2, h3⟩ := h.cache
  have hml := h.ml
  refine (misses_at (h1.after ((Wrote.refl Nil w).drewN x)) t (by omega)).mono ?_
  rintro e w' ⟨he, hw⟩
  exact ⟨he, x, hw⟩
theorem p_misses_not (h : PSt w0 base c bc bm hb threads words w Dc mc Dd dv ma lim) (t : Int) (ht : ¬(0 ≤ t ∧ t < threads)) :
    Calls Try.prog 11 #[.pointer (some ⟨c, 0, none⟩), .int .i64 t] w fun e w' => e = .returned (.int .i64 0) ∧ w' = w := by
  obtain ⟨cs, h1, h2, h3⟩ := h.cache
  have hml := h.ml
  exact misses_not h1 t (by omega)
theorem p_total (h : PSt w0 base c bc bm hb threads words w Dc mc Dd dv ma lim) (hl : lim < 1000) :
    Calls Try.prog 14 #[.pointer (some ⟨c, 0, none⟩)] w fun e w' => e = .returned (.int .i64 ((sumN mc : Nat) : Int)) ∧ w' = w := by
  obtain ⟨cs, h1, h2, h3⟩ := h.cache
  exact total_any h1 (by omega)
def PHasPost (w0 : World) (base c bc bm hb threads words : Nat) (Dc : List Tch) (mc : List Nat) (Dd : List Tch) (dv : Value) (ma : List Nat) (lim : Nat) (b : Bool) (e : Ending) (w' : World) : Prop :=
  e = .returned (.bool b) ∧ PSt w0 base c bc bm hb threads words w' Dc mc Dd dv ma lim
theorem p_has (h : PSt w0 base c bc bm hb threads words w Dc mc Dd dv ma lim) (t a : Nat) (ht : t < threads) (ha : a < words) :
    Calls Try.prog 12 #[.pointer (some ⟨c, 0, none⟩), .int .i64 t, .int .i64 a] w (PHasPost w0 base c bc bm hb threads words Dc mc Dd dv ma lim (hasL Dc t a)) := by
  obtain ⟨cs, h1, h2, h3⟩ := h.cache
  have hml := h.ml
  refine (chas_at h1 t a (by omega) (by omega)).mono ?_
  rintro e w' ⟨he, n, rfl⟩
  rw [h3 a (by omega) t ht] at he
  exact ⟨he, h.after ((Wrote.refl Nil w).drewN n)⟩
theorem p_has_not (h : PSt w0 base c bc bm hb threads words w Dc mc Dd dv ma lim) :
    Calls Try.prog 12 #[.pointer (some ⟨c, 0, none⟩), .int .i64 (-1), .int .i64 0] w (PHasPost w0 base c bc bm hb threads words Dc mc Dd dv ma lim false) := by
  obtain ⟨cs, h1, h2, h3⟩ := h.cache
  refine (chas_not1 h1 (-1) 0 (by omega)).mono ?_
  rintro e w' ⟨he, n, rfl⟩
  exact ⟨he, h.after ((Wrote.refl Nil w).drewN n)⟩
theorem p_ref (h : PSt w0 base c bc bm hb threads words w Dc mc Dd dv ma lim) (t a : Int) (hn : Dd.length ≤ 1000) :
    Calls Try.prog 13 #[dv, .int .i64 t, .int .i64 a] w fun e w' => e = .returned (.bool (hasL Dd t a)) ∧ w' = w := by
  obtain ⟨sa, cap, rfl, hr⟩ := h.slice
  exact ref_has hr (by omega) t a

theorem tch_one (x : Tch) : ∀ u ∈ tchCells x, u.oneCell' = true := by
  intro u hu
  simp only [tchCells, List.mem_cons, List.not_mem_nil, or_false] at hu
  rcases hu with rfl | rfl | rfl <;> rfl
theorem news_one (w : World) (x : Tch) (t : TypeId) : ∀ (j : Nat) (u : Value), (tchCells x)[j]? = some u → (w.alloc (.cells #[.int .i64 x.1, .int .i64 x.2.1, .bool x.2.2] t)).cell? ((⟨w.heap.size, 0, none⟩ : Addr).add j) = some u := by
  intro j u hu
  rw [Go.Addr.add_lit, Nat.zero_add, blk_cell (Go.Deep.blk_alloc_new w _)]
  have hj : j < 3 := (List.getElem?_eq_some_iff.1 hu).1
  have : j = 0 ∨ j = 1 ∨ j = 2 := by omega
  rcases this with rfl | rfl | rfl <;> exact hu
theorem info_rtouch : (Try.prog.info? 32).map (fun i => (i.zero, i.size, i.bytes)) = some (some (.agg #[.int .i64 0, .int .i64 0, .bool false]), 3, 24) := by kernel_rfl
theorem rowM_zero (n : Nat) : rowM (List.replicate n 0) = #[.int .i64 0, .int .i64 0, .int .i64 0, .int .i64 0, .int .i64 0, .int .i64 0, .int .i64 0, .int .i64 0] := by
  have h : ∀ j, (List.replicate n 0).getD j 0 = 0 := by
    intro j
    rw [List.getD_eq_getElem?_getD, List.getElem?_replicate]
    split <;> rfl
  unfold rowM
  simp only [h]
  rfl
theorem sum_new (n : Nat) : sumN (List.replicate n 0) = 0 := by
  induction n with
  | zero => rfl
  | succ n ih => simp [List.replicate_succ, sumN, ih]
theorem getD_le_sum (ms : List Nat) (t : Nat) : ms.getD t 0 ≤ sumN ms := by
  induction ms generalizing t with
  | nil => simp
  | cons x r ih =>
    cases t with
    | zero => simp [sumN]
    | succ t =>
      have := ih t
      simp only [List.getD_cons_succ, sumN]
      omega
theorem p_start {w w1 : World} {c bc bm n m : Nat} (hC : CacheAt w1 c bc bm (List.replicate m 0) (List.replicate n 0) 0) (g2 : w.heap.size ≤ bc) (g3 : w.heap.size ≤ bm) (hW : Wrote Nil w w1) :
    PSt w (w1.heap.size + 1) c bc bm w1.heap.size n m (w1.alloc (.cells #[.int .i64 0, .int .i64 0, .int .i64 0, .int .i64 0, .int .i64 0, .int .i64 0, .int .i64 0, .int .i64 0] 29)) [] (List.replicate n 0) [] (.slice none 0 0) (List.replicate n 0) 0 := by
  have h1 := hC.lt
  have h2 := hW.size
  refine ⟨⟨_, hC.after ((Wrote.refl Nil w1).alloc _), by simp, rel_new m n⟩, by simp, ?_, World.ownsRow_nil _ _ _ _, hW.alloc _, by rw [Go.Deep.nblk_alloc]; exact Nat.le_refl _, by omega, by omega, by omega, by omega, g2, g3, h2, by omega, by omega, by omega, by omega⟩
  rw [rowM_zero]
  exact Go.Deep.blk_alloc_new _ _
theorem scr_new (w : World) (T A : Int) (B : Bool) : Scr ((w.alloc (.cells #[.int .i64 T, .int .i64 A, .bool B] 31)).alloc (.cells #[.int .i64 T, .int .i64 A, .bool B] 32)) w.heap.size (T, A, B) := by
  have n1 : (w.alloc (.cells #[.int .i64 T, .int .i64 A, .bool B] 31)).heap.size = w.heap.size + 1 := Go.Deep.nblk_alloc _ _
  refine ⟨?_, ?_⟩
  · rw [Go.Deep.blk_alloc_lt _ _ _ (by omega), Go.Deep.blk_alloc_new]
  · rw [← n1, Go.Deep.blk_alloc_new]

set_option maxRecDepth 100000 in
set_option maxHeartbeats 1000000 in
theorem walk (a0 : Int) (a1 : Int) (s2 : Option Addr) (len2 cap2 : Nat) (z2 : Nat → Nat → Int) (w : World) (w0 : (Lit.int .u8 a0).wf = true) (w1 : (Lit.int .u8 a1).wf = true) (l2 : len2 ≤ cap2 ∧ cap2 ≤ maxLen ∧ (s2 = none → cap2 = 0)) (r2 : StructsK w [.int .i64, .int .i64, .bool] s2 len2 z2) :
    Calls Try.prog 3 #[.int .u8 a0, .int .u8 a1, .slice s2 len2 cap2] w fun e w' => e = .returned (.bool true) ∧ Below w.heap.size w w' := by
  obtain ⟨u0, u1⟩ := u8_bd w0
  obtain ⟨u2, u3⟩ := u8_bd w1
  have hml : len2 ≤ 9223372036854775807 := by have := l2.1; have := l2.2.1; unfold maxLen at this; omega
  obtain ⟨n, rfl⟩ := Int.eq_ofNat_of_zero_le u0
  obtain ⟨m, rfl⟩ := Int.eq_ofNat_of_zero_le u2
  by_cases hbad : n < 1 ∨ (¬ n < 1 ∧ 8 < n) ∨ (¬ n < 1 ∧ ¬ 8 < n ∧ 8 < m) ∨ (¬ n < 1 ∧ ¬ 8 < n ∧ ¬ 8 < m ∧ 60 < len2)
  · clear w0 w1 l2 r2
    rcases hbad with k | ⟨k, k'⟩ | ⟨k, k', k''⟩ | ⟨k, k', k'', k3⟩
    all_goals
      go_enter Try.func3, Try.ntmps3
      go_wp2_with (go_at_call 7; refine (awake_any _).mono ?_; rintro e w6 ⟨rfl, hW6⟩)
      go_ret
      exact ⟨rfl, hW6.law⟩
  have k1 : ¬ n < 1 := by omega
  have k2 : ¬ 8 < n := by omega
  have k3 : ¬ 8 < m := by omega
  have k4 : ¬ 60 < len2 := by omega
  have c1 := cnew_good (w := w) (threads := n) (words := m) (by omega) (by omega) (by omega)
  have hat := r2.at (by decide)
  clear hbad r2 w0 w1
  go_enter Try.func3, Try.ntmps3
  go_wp2_with (first
    | (go_at_call 8; refine c1.mono ?_; rintro e w1 ⟨c, bc, bm, rfl, hC1, g1, g2, g3, hW1⟩))
  obtain ⟨i0, hi, hz0, hz1, hz2⟩ := info_parts info_rtouch
  have hP0 := p_start hC1 g2 g3 hW1
  generalize w1.heap.size = hb at hP0 ⊢
  generalize w1.alloc (.cells #[.int .i64 0, .int .i64 0, .int .i64 0, .int .i64 0, .int .i64 0, .int .i64 0, .int .i64 0, .int .i64 0] 29) = w2 at hP0 ⊢
  generalize hbase : hb + 1 = base at hP0
  clear hC1 hW1 g1 g2 g3 c1 hbase
  go_loopw [9, 11, 51] (fun dv tv i wr => ∃ (k S : Nat) (D : List Tch) (ms : List Nat) (dv0 : Value), dv0 = dv ∧ k ≤ len2 ∧ i = .int .i64 k ∧ tv = .int .i64 (S : Int) ∧ S ≤ k ∧ Hid (S = sumN ms ∧ D.length ≤ k) ∧ PSt w base c bc bm hb n m wr D ms D dv0 ms k) (fun _ _ i _ => len2 - (intOf i).toNat)
  case atStart => exact ⟨0, 0, [], List.replicate n 0, _, rfl, Nat.zero_le _, rfl, rfl, Nat.le_refl _, Lib.hid ⟨(sum_new n).symm, Nat.le_refl _⟩, hP0⟩
  case round =>
    clear hP0
    obtain ⟨k, S, D, ms, dv, rfl, hk, rfl, rfl, hSk, hS, hP⟩ := hrel
    by_cases hlt : k < len2
    · rcases hat with h0 | ⟨ob, oo, rfl, hz⟩
      · omega
      · have q0 : wr.cell? ⟨ob, oo + k * 3, none⟩ = some (.int .i64 (z2 k 0)) := hP.wrote.old (hz k hlt 0 _ rfl).1
        have q1 : wr.cell? ⟨ob, oo + k * 3 + 1, none⟩ = some (.int .i64 (z2 k 1)) := hP.wrote.old (hz k hlt 1 _ rfl).1
        have q2 : wr.cell? ⟨ob, oo + k * 3 + 2, none⟩ = some (.bool (decide (z2 k 2 = 1))) := hP.wrote.old (hz k hlt 2 _ rfl).1
        generalize z2 k 0 = T at q0
        generalize z2 k 1 = A at q1
        generalize decide (z2 k 2 = 1) = B at q2
        have hP1 := hP.after (((Wrote.refl Nil wr).alloc (.cells #[.int .i64 T, .int .i64 A, .bool B] 31)).alloc (.cells #[.int .i64 T, .int .i64 A, .bool B] 32))
        have hS1 := scr_new wr T A B
        have hown : ∀ j, dv.ownBlock = some j → j < wr.heap.size := fun j hj => (hP.own.lt j hj).2
        have HZ := Lib.hid (And.intro hz (And.intro hS1 hown))
        clear hz hS1 hown
        by_cases hin : 0 ≤ T ∧ T < n ∧ 0 ≤ A ∧ A < m
        · obtain ⟨t0, t1, a0, a1⟩ := hin
          obtain ⟨t, rfl⟩ := Int.eq_ofNat_of_zero_le t0
          obtain ⟨a, rfl⟩ := Int.eq_ofNat_of_zero_le a0
          obtain ⟨b, hb⟩ : ∃ b, b = missL D t a B n := ⟨_, rfl⟩
          have hD := hS.out.2
          have hml1 := hP1.ml
          have cm : Calls Try.prog 9 #[dv, .agg #[.int .i64 t, .int .i64 a, .bool B], .int .i64 n] _ _ := p_miss (x := ((t : Int), (a : Int), B)) hP1 HZ.out.2.1 (by omega) (by omega)
          rw [← hb] at cm
          have h8 : (t : Int) < 8 := by omega
          have HB0 := Lib.hid (And.intro hb (And.intro hml1 hP1))
          have HP0 := Lib.hid hP
          clear hb hml1 hD hP1 hP
          have hq : base ≤ wr.heap.size := HP0.out.size
          have hx : ms.getD t 0 ≤ k := by have := getD_le_sum ms t; have := hS.out.1; omega
          obtain ⟨x, hx'⟩ : ∃ x, x = ms.getD t 0 := ⟨_, rfl⟩
          rw [← hx'] at hx
          have HB := Lib.hid (And.intro HB0.out.1 (And.intro hx' (And.intro HB0.out.2.1 hq)))
          clear hq hx' HB0
          cases b
          · go_wp2_with (first
              | (go_at_call 9; with_reducible refine cm.mono ?_; intro e w3 h3; unfold PMissPost at h3; obtain ⟨rfl, hP3, hS3⟩ := h3; have e0 := hS3.l0; have e1 := hS3.l1; have e2 := hS3.l2; have H3 := Lib.hid (And.intro hP3 hS3); clear hP3 hS3 cm)
              | (go_at_call 10; have cu : Calls Try.prog 10 #[.pointer (some ⟨c, 0, none⟩), .int .i64 t, .int .i64 a, .bool B] _ _ := p_touch (t := t) (a := a) (B := B) H3.out.1 H3.out.2 HB.out.2.2.2 (by omega) (by omega) (by omega); rw [← HB.out.1] at cu; with_reducible refine cu.mono ?_; intro e w4 h4; unfold PMissPost at h4; obtain ⟨rfl, hP4, hS4⟩ := h4; have r0 := hS4.r0; have r1 := hS4.r1; have r2 := hS4.r2; have hP5 := hP4.after ((Wrote.refl Nil w4).alloc (.cells #[.int .i64 t, .int .i64 a, .bool B] 32)); have hS5 := hS4.wrote ((Wrote.refl Nil w4).alloc (.cells #[.int .i64 t, .int .i64 a, .bool B] 32)) id id; have H5 := Lib.hid (And.intro hP5 hS5); clear hP4 hS4 hP5 hS5 e0 e1 e2)
              | (at_builtin; refine wpList_append_own _ rfl _ _ 28 rfl base 32 i0 (.agg #[.int .i64 0, .int .i64 0, .bool false]) 3 24 Try.underlying28 hi hz0 hz1 hz2 rfl (by decide) dv D.length (D.flatMap tchCells) rfl H5.out.1.own ⟨w4.heap.size, 0, none⟩ 1 1 (tchCells ((t : Int), (a : Int), B)) rfl rfl (news_one w4 _ _) (tch_one _) (by have := hS.out.2; unfold maxLen; omega) (by have := hS.out.2; omega) H5.out.1.size ?_; intro v' w6 hown hgrow hnil; have hP6 := H5.out.1.grown hown hgrow; have hS6 := H5.out.2.grown hgrow HZ.out.2.2; have f0 := hS6.l0; have f1 := hP6.count (show t < 8 by omega); rw [← HB.out.2.1] at f1; have f2 := hP6.frozen t; have H6 := Lib.hid (And.intro hP6 hS6); clear hP6 hS6 hown hgrow hnil r0 r1 r2))
            go_roundw
            case rel => exact ⟨k + 1, S, D ++ [((t : Int), (a : Int), B)], ms, v', rfl, by omega, by go_num, rfl, by omega, Lib.hid ⟨hS.out.1, by have := hS.out.2; simp; omega⟩, H6.out.1⟩
            case measure => simp [intOf]; omega
          · go_wp2_with (first
              | (go_at_call 9; with_reducible refine cm.mono ?_; intro e w3 h3; unfold PMissPost at h3; obtain ⟨rfl, hP3, hS3⟩ := h3; have e0 := hS3.l0; have e1 := hS3.l1; have e2 := hS3.l2; have H3 := Lib.hid (And.intro hP3 hS3); clear hP3 hS3 cm)
              | (go_at_call 10; have cu : Calls Try.prog 10 #[.pointer (some ⟨c, 0, none⟩), .int .i64 t, .int .i64 a, .bool B] _ _ := p_touch (t := t) (a := a) (B := B) H3.out.1 H3.out.2 HB.out.2.2.2 (by omega) (by omega) (by omega); rw [← HB.out.1] at cu; with_reducible refine cu.mono ?_; intro e w4 h4; unfold PMissPost at h4; obtain ⟨rfl, hP4, hS4⟩ := h4; have r0 := hS4.r0; have r1 := hS4.r1; have r2 := hS4.r2; have hP5 := hP4.after ((Wrote.refl Nil w4).alloc (.cells #[.int .i64 t, .int .i64 a, .bool B] 32)); have hS5 := hS4.wrote ((Wrote.refl Nil w4).alloc (.cells #[.int .i64 t, .int .i64 a, .bool B] 32)) id id; have H5 := Lib.hid (And.intro hP5 hS5); clear hP4 hS4 hP5 hS5 e0 e1 e2)
              | (at_builtin; refine wpList_append_own _ rfl _ _ 28 rfl base 32 i0 (.agg #[.int .i64 0, .int .i64 0, .bool false]) 3 24 Try.underlying28 hi hz0 hz1 hz2 rfl (by decide) dv D.length (D.flatMap tchCells) rfl H5.out.1.own ⟨w4.heap.size, 0, none⟩ 1 1 (tchCells ((t : Int), (a : Int), B)) rfl rfl (news_one w4 _ _) (tch_one _) (by have := hS.out.2; unfold maxLen; omega) (by have := hS.out.2; omega) H5.out.1.size ?_; intro v' w6 hown hgrow hnil; have hP6 := H5.out.1.grown hown hgrow; have hS6 := H5.out.2.grown hgrow HZ.out.2.2; have f0 := hS6.l0; have f1 := hP6.count (show t < 8 by omega); rw [← HB.out.2.1] at f1; have f2 := hP6.frozen t; have H6 := Lib.hid (And.intro hP6 hS6); clear hP6 hS6 hown hgrow hnil r0 r1 r2))
            go_roundw
            case rel => exact ⟨k + 1, S + 1, D ++ [((t : Int), (a : Int), B)], bump ms t true, v', rfl, by omega, by go_num, by go_num, by omega, Lib.hid ⟨by rw [hS.out.1]; exact (sumN_set (by have := HB.out.2.2.1; omega)).symm, by have := hS.out.2; simp; omega⟩, by have e := H6.out.1.bumped (t := t) (by have := HB.out.2.2.1; omega); rw [← HB.out.2.1] at e; exact e⟩
            case measure => simp [intOf]; omega
        · have ct : Calls Try.prog 10 #[.pointer (some ⟨c, 0, none⟩), .int .i64 T, .int .i64 A, .bool B] _ _ := p_touch_not hP1 (x := (T, A, B)) hin
          have hbad : T < 0 ∨ (¬ T < 0 ∧ n ≤ T) ∨ (¬ T < 0 ∧ ¬ n ≤ T ∧ A < 0) ∨ (¬ T < 0 ∧ ¬ n ≤ T ∧ ¬ A < 0 ∧ m ≤ A) := by omega
          have HP1 := Lib.hid hP1
          clear hin hP1 hP
          rcases hbad with h | ⟨h, h'⟩ | ⟨h, h', h''⟩ | ⟨h, h', h'', h3⟩
          all_goals
            go_wp2_with (go_at_call 10; with_reducible refine ct.mono ?_; rintro e w' ⟨rfl, rfl⟩)
            go_roundw
            case rel => exact ⟨k + 1, S, D, ms, dv, rfl, by omega, by go_num, rfl, by omega, Lib.hid ⟨hS.out.1, by have := hS.out.2; omega⟩, HP1.out.lift (by omega)⟩
            case measure => simp [intOf]; omega
    · have hD := hS.out.2
      have hk60 : k ≤ 60 := by omega
      go_wp2
      go_loopw [119] (fun i wr2 => ∃ t : Nat, t ≤ n ∧ i = .int .i64 t ∧ PSt w base c bc bm hb n m wr2 D ms D dv ms k) (fun i _ => n - (intOf i).toNat)
      case atStart => exact ⟨0, Nat.zero_le _, rfl, hP⟩
      case round =>
        clear hP hat
        obtain ⟨t, ht, rfl, hP⟩ := hrel
        by_cases htn : t < n
        · have f1 := hP.count (show t < 8 by omega)
          have f2 := p_misses hP t htn
          have f3 : (t : Int) < 8 := by omega
          obtain ⟨x, hx⟩ : ∃ x, x = ms.getD t 0 := ⟨_, rfl⟩
          rw [← hx] at f1 f2
          have HX := Lib.hid (And.intro hx hP)
          clear hx hP
          go_wp2
          go_big_quiet ((go_at_call 11; exact f2 _))
          go_wp2
          go_loopw [131] (fun i wr3 => ∃ a : Nat, a ≤ m ∧ i = .int .i64 a ∧ PSt w base c bc bm hb n m wr3 D ms D dv ms k) (fun i _ => m - (intOf i).toNat)
          case atStart => exact ⟨0, Nat.zero_le _, rfl, HX.out.2.after ((Wrote.refl Nil _).drewN _)⟩
          case round =>
            clear f1 f2 HX
            obtain ⟨a, ha, rfl, hP⟩ := hrel
            by_cases ham : a < m
            · have g1 := p_has hP t a htn ham
              obtain ⟨v, hv⟩ : ∃ v, v = hasL D t a := ⟨_, rfl⟩
              rw [← hv] at g1
              have HV := Lib.hid hv
              clear hv hP
              go_wp2_with (first
                | (go_at_call 12; with_reducible refine g1.mono ?_; intro e w3 h3; unfold PHasPost at h3; obtain ⟨rfl, hP3⟩ := h3)
                | (go_at_call 13; have g2 := p_ref hP3 (t : Int) (a : Int) (by omega); rw [← HV.out] at g2; with_reducible refine g2.mono ?_; rintro e w4 ⟨rfl, rfl⟩))
              go_roundw
              case rel => exact ⟨a + 1, by omega, by go_num, hP3⟩
              case measure => simp [intOf]; omega
            · go_wp2
              go_roundw
              case rel => exact ⟨t + 1, by omega, by go_num, hP⟩
              case measure => simp [intOf]; omega
        · have h1 := p_total hP (by omega)
          rw [← hS.out.1] at h1
          have h2 := p_misses_not hP (-1) (by omega)
          have h3 := p_misses_not hP n (by omega)
          have h4 := p_has_not hP
          go_wp2_with (first
            | (go_at_call 14; with_reducible refine h1.mono ?_; rintro e w4 ⟨rfl, rfl⟩)
            | (go_at_call 11; with_reducible refine h2.mono ?_; rintro e w4 ⟨rfl, rfl⟩)
            | (go_at_call 11; with_reducible refine h3.mono ?_; rintro e w4 ⟨rfl, rfl⟩)
            | (go_at_call 12; with_reducible refine h4.mono ?_; intro e w5 h5; unfold PHasPost at h5; obtain ⟨rfl, hP5⟩ := h5)
            | (go_at_call 7; refine (awake_any _).mono ?_; rintro e w6 ⟨rfl, hW6⟩))
          go_ret
          exact ⟨rfl, (hP5.wrote.nil hW6).law⟩

/-! the row -/
set_option maxRecDepth 100000 in
theorem lifted (os : Os) (started : os.Started) (H : Type) (enc : TypeId × Value → H) :
    ReturnsInHanded {} Try.checked os 3 .any (Rows.cachePlaysSpec.pre6 enc Try.prog Try.f3 Rows.cachePlaysRow.domain false) (Rows.cachePlaysSpec.post enc Try.prog Try.f3 false true false false) := by
  refine returnsInHanded_of_change (C := Try.checked) own started (by kernel_rfl) Try.func3
    (ChangeSpec.witness6 (enc := enc) (C := Try.checked) false ⟨#[], #[.int .u8 0, .int .u8 0, .slice none 0 0], []⟩ 8 (by kernel_rfl) (by kernel_rfl) (by kernel_rfl) (by kernel_rfl)) ?_
  intro W base args ds gs before hval0 hW hcnd _
  have hval : ∀ (j : Nat) t v, Try.f3.params[j]? = some t → args[j]? = some v → Value.okWide Try.prog W .any base t v := hval0
  have hW' := hW
  obtain ⟨p, q, hA0, hV, rfl, hfz, hnd⟩ := hW
  have hA : DataW.TrodAll enc Try.prog W 0 (fun _ => true) true Try.f3.params.toList args.toList ds p := hA0
  rw [Try.params3] at hA hval
  obtain ⟨v0, vs0, d0, ds0, p0, q0, hargs, rfl, rfl, h0, r0'⟩ := trodAll_cons hA
  obtain ⟨v1, vs1, d1, ds1, p1, q1, rfl, rfl, rfl, h1, r1'⟩ := trodAll_cons r0'
  obtain ⟨v2, vs2, d2, ds2, p2, q2, rfl, rfl, rfl, h2, r2'⟩ := trodAll_cons r1'
  obtain ⟨rfl, rfl, rfl⟩ := trodAll_nil r2'
  obtain rfl : args = #[v0, v1, v2] := by cases args; simp_all
  obtain ⟨rfl, rfl⟩ := trodVars_none hV
  obtain ⟨a0, rfl, rfl, rfl, w0⟩ := open_int Try.underlying5 (hval 0 5 v0 rfl rfl) h0
  obtain ⟨a1, rfl, rfl, rfl, w1⟩ := open_int Try.underlying5 (hval 1 5 v1 rfl rfl) h1
  have k2 := h2
  have lt2 : ∀ x ∈ p2, x.block < W.heap.size := by obtain ⟨m, hm⟩ := k2; exact DataW.trod_lt m _ _ _ hm
  obtain ⟨s2, len2, cap2, rfl⟩ := okWide_slice Try.underlying22 (hval 2 22 v2 rfl rfl)
  obtain ⟨l2, z2, r2⟩ := open_slice_fk (ks := [.int .i64, .int .i64, .bool]) Try.underlying22 Try.underlying31 (by kernel_rfl) (by kernel_rfl) h2
  clear hA0 hval0
  refine (walk a0 a1 s2 len2 cap2 z2 W w0 w1 l2 r2).mono fun e W' ⟨he, bel⟩ => ?_
  subst he
  exact ⟨_, rfl, _, _, _, [], _, [], hW', trodAll_mk1 (shut_bool Try.underlying4 _), (trodAll_cons_mk (shut_int Try.underlying5 w0) (trodAll_cons_mk (shut_int Try.underlying5 w1) (trodAll_cons_mk (Below.trod laidOut (by kernel_rfl) (of_decide_eq_true (by kernel_rfl)) k2 bel lt2) trodAll_mk0))), rfl, bel.frame _, fun h => by cases h⟩

theorem over : Rows.cachePlaysRow.holds Try.pinned (OpenSpec.ofChange Rows.cachePlaysSpec) :=
  OpenClaim.holds_of_wide 3 Try.f3 rfl rfl rfl rfl rfl rfl rfl ⟨rfl, rfl, rfl, rfl, rfl⟩ rfl rfl rfl rfl rfl (by kernel_rfl) Try.func3 (by kernel_rfl)
    (of_decide_eq_true (by kernel_rfl)) (by unfold Func.isWrapper; first | (rw [if_pos (by decide +kernel)]; kernel_rfl) | (rw [if_neg (by decide +kernel)]; exact ⟨rfl, rfl⟩))
    (fun os started H enc _ => lifted os started H enc)

/-- the statement -/
theorem proved : Rows.CachePlaysSaid := over
#print axioms proved
end Go.Proofs.Ytdmehgmlomncaaa.cachePlays
