/- The contract of the reference's access by a thread. -/
import Derived.Test.YteacdcdjdbobnaaGreatPortRef
import Derived.Deep.Cut
namespace Go.Proofs.YteacdcdjdbobnaaGreat
open Go.RowKit
set_option linter.unusedVariables false
set_option maxRecDepth 100000

/-- the blocks of the reference's port that an access may write -/
def Foot (r bk : Nat) (dv : Value) (k : Nat) : Prop := k = r ∨ k = bk ∨ dv.ownBlock = some k
def RDoPost (base r bk : Nat) (dv : Value) (s : PSta) (tell did : Int) (w : World) (e : Ending) (w' : World) : Prop :=
  e = .returned (.tuple #[.int .u32 tell, .int .i64 did]) ∧ RefSt w' base r s ∧ Wrote (Foot r bk dv) w w'

set_option maxRecDepth 100000 in
set_option maxHeartbeats 1000000 in
theorem rdo_not {w : World} {base r bk : Nat} {so : Option Addr} {cap : Nat} {dv : Value} {s : PSta} (h : RefAt w base r bk so cap dv s) (t K a old v : Int) (hn : t < 0 ∨ (¬ t < 0 ∧ s.ac.length ≤ t) ∨ (¬ t < 0 ∧ ¬ s.ac.length ≤ t ∧ a < 0) ∨ (¬ t < 0 ∧ ¬ s.ac.length ≤ t ∧ ¬ a < 0 ∧ s.ws.length ≤ a) ∨ (¬ t < 0 ∧ ¬ s.ac.length ≤ t ∧ ¬ a < 0 ∧ ¬ s.ws.length ≤ a ∧ K < 1) ∨ (¬ t < 0 ∧ ¬ s.ac.length ≤ t ∧ ¬ a < 0 ∧ ¬ s.ws.length ≤ a ∧ ¬ K < 1 ∧ 5 < K)) :
    Calls Tryz.prog 119 #[.pointer (some ⟨r, 0, none⟩), .int .i64 t, .agg #[.int .i64 K, .int .i64 a, .int .u32 old, .int .u32 v]] w (RDoPost base r bk dv s 0 0 w) := by
  obtain ⟨X, hX⟩ : ∃ X, X = w.alloc (.cells #[.int .i64 K, .int .i64 a, .int .u32 old, .int .u32 v] 179) := ⟨_, rfl⟩
  have hW : Wrote Nil w X := by rw [hX]; exact (Wrote.refl _ _).alloc _
  have hR := h.after hW fun _ _ => id
  have x0 : X.cell? ⟨w.heap.size, 0, none⟩ = some (.int .i64 K) := by rw [hX]; simp
  have x1 : X.cell? ⟨w.heap.size, 1, none⟩ = some (.int .i64 a) := by rw [hX]; simp
  have c0 := hR.cell0
  have c1 := hR.cell1
  have HR := Lib.hid (And.intro hR (And.intro hW hX))
  clear hR hW h hX
  rcases hn with h1 | ⟨h1, h2⟩ | ⟨h1, h2, h3⟩ | ⟨h1, h2, h3, h4⟩ | ⟨h1, h2, h3, h4, h5⟩ | ⟨h1, h2, h3, h4, h5, h6⟩
  all_goals
    try have d1 := decide_eq_false h1
    try have d2 := decide_eq_false h2
    try have d3 := decide_eq_false h3
    try have d4 := decide_eq_false h4
    try have d5 := decide_eq_false h5
    go_enter Tryz.func119, Tryz.ntmps119
    go_wp2
    rw [← HR.out.2.2]
    go_big_quiet (fail)
    go_wp2
    go_ret2
    unfold RDoPost
    exact ⟨rfl, ⟨_, _, _, _, HR.out.1.after ((Wrote.refl Nil X).drewN _) fun _ _ => id⟩, (HR.out.2.1.mono fun _ _ x => x.elim).drewN _⟩

/-- within the access: the object holds o0 and o2, the words are a row at so, the touches dv's; the counts are f; the access and the touch lie in blocks of their own -/
structure RMid (F : Nat → Prop) (w0 w : World) (base r bk : Nat) (o0 o2 : Value) (so : Option Addr) (dv : Value) (ws : List Int) (D : List Tch) (n : Nat) (f : Nat → Value) (x q : Nat) (K a old v : Int) (c : Tch) : Prop where
  obj : w.heap[r]? = some (.cells #[o0, .int .i64 n, o2, .slice (some ⟨bk, 0, none⟩) n n] 83 (0, 0))
  words : RowAt .u32 w so ws.length ws
  wblk : ∀ b, so = some b → base ≤ b.block ∧ b.block ≠ r ∧ b.block ≠ bk ∧ dv.ownBlock ≠ some b.block
  touched : w.ownsRow base 182 3 dv D.length (D.flatMap tchCells)
  tblk : dv.ownBlock ≠ some r ∧ dv.ownBlock ≠ some bk ∧ dv.ownBlock ≠ some x ∧ dv.ownBlock ≠ some q
  counts : w.rowIs bk 109 (n * 3) f
  low : base ≤ r ∧ base ≤ bk ∧ r ≠ bk
  op : w.heap[x]? = some (.cells #[.int .i64 K, .int .i64 a, .int .u32 old, .int .u32 v] 179 (0, 0))
  tch : w.heap[q]? = some (.cells #[.int .i64 c.1, .int .i64 c.2.1, .bool c.2.2] 182 (0, 0))
  far : x ≠ r ∧ x ≠ bk ∧ q ≠ r ∧ q ≠ bk
  wrote : Wrote F w0 w
  foot : F r ∧ F bk ∧ ∀ k, dv.ownBlock = some k → k < w0.heap.size → F k
  size : base ≤ w.heap.size
namespace RMid
variable {F : Nat → Prop} {w0 w w' : World} {base r bk : Nat} {o0 o2 : Value} {so : Option Addr} {dv : Value} {ws : List Int} {D : List Tch} {n : Nat} {f : Nat → Value} {x q : Nat} {K a old v : Int} {c : Tch}
theorem after (h : RMid F w0 w base r bk o0 o2 so dv ws D n f x q K a old v c) (k : Wrote Nil w w') : RMid F w0 w' base r bk o0 o2 so dv ws D n f x q K a old v c :=
  ⟨(k.block r (blk_lt h.obj) id).trans h.obj, h.words.after k, h.wblk, ownsRow_keep h.touched (fun j hj => k.block j (h.touched.lt j hj).2 id), h.tblk, h.counts.of_block (k.block bk h.counts.lt id), h.low,
    (k.block x (blk_lt h.op) id).trans h.op, (k.block q (blk_lt h.tch) id).trans h.tch, h.far, h.wrote.trans k (fun _ _ e => e.elim), h.foot, Nat.le_trans h.size k.size⟩
/-- a count is stored -/
theorem store (h : RMid F w0 w base r bk o0 o2 so dv ws D n f x q K a old v c) (i : Nat) (u : Value) : RMid F w0 (w.setCell ⟨bk, i, none⟩ u) base r bk o0 o2 so dv ws D n (fun j => if j = i then u else f j) x q K a old v c := by
  have k : Wrote (One bk) w (w.setCell ⟨bk, i, none⟩ u) := (Wrote.refl _ w).setCell _ _ fun _ => rfl
  obtain ⟨l1, l2, l3⟩ := h.low
  obtain ⟨f1, f2, f3, f4⟩ := h.far
  refine ⟨(k.block r (blk_lt h.obj) l3).trans h.obj, h.words.wrote k (fun b hb => (h.wblk b hb).2.2.1), h.wblk, ownsRow_keep h.touched (fun j hj => k.block j (h.touched.lt j hj).2 (fun e => h.tblk.2.1 (by rw [hj]; exact congrArg some e))), h.tblk, h.counts.set i u, h.low,
    (k.block x (blk_lt h.op) f2).trans h.op, (k.block q (blk_lt h.tch) f4).trans h.tch, h.far, h.wrote.trans k (fun b _ e => by cases e; exact h.foot.2.1), h.foot, Nat.le_trans h.size k.size⟩
theorem congr {g : Nat → Value} (h : RMid F w0 w base r bk o0 o2 so dv ws D n f x q K a old v c) (e : ∀ j, j < n * 3 → f j = g j) : RMid F w0 w base r bk o0 o2 so dv ws D n g x q K a old v c :=
  ⟨h.obj, h.words, h.wblk, h.touched, h.tblk, h.counts.congr e, h.low, h.op, h.tch, h.far, h.wrote, h.foot, h.size⟩
theorem objW (h : RMid F w0 w base r bk o0 o2 so dv ws D n f x q K a old v c) (i : Nat) (u : Value) : Wrote (One r) w (w.setCell ⟨r, i, none⟩ u) ∧ RowAt .u32 (w.setCell ⟨r, i, none⟩ u) so ws.length ws ∧ (w.setCell ⟨r, i, none⟩ u).ownsRow base 182 3 dv D.length (D.flatMap tchCells) := by
  have k : Wrote (One r) w (w.setCell ⟨r, i, none⟩ u) := (Wrote.refl _ w).setCell _ _ fun _ => rfl
  exact ⟨k, h.words.wrote k (fun b hb => (h.wblk b hb).2.1), ownsRow_keep h.touched (fun j hj => k.block j (h.touched.lt j hj).2 (fun e => h.tblk.1 (by rw [hj]; exact congrArg some e)))⟩
theorem store2 (h : RMid F w0 w base r bk o0 o2 so dv ws D n f x q K a old v c) (u : Value) : RMid F w0 (w.setCell ⟨r, 2, none⟩ u) base r bk o0 u so dv ws D n f x q K a old v c := by
  obtain ⟨k, k1, k2⟩ := h.objW 2 u
  obtain ⟨l1, l2, l3⟩ := h.low
  obtain ⟨f1, f2, f3, f4⟩ := h.far
  refine ⟨?_, k1, h.wblk, k2, h.tblk, h.counts.of_block (k.block bk h.counts.lt l3.symm), h.low, (k.block x (blk_lt h.op) f1).trans h.op, (k.block q (blk_lt h.tch) f3).trans h.tch, h.far, h.wrote.trans k (fun b _ e => by cases e; exact h.foot.1), h.foot, Nat.le_trans h.size k.size⟩
  rw [blk_setCell h.obj]
  rfl
theorem store0 (h : RMid F w0 w base r bk o0 o2 so dv ws D n f x q K a old v c) (u : Value) : RMid F w0 (w.setCell ⟨r, 0, none⟩ u) base r bk u o2 so dv ws D n f x q K a old v c := by
  obtain ⟨k, k1, k2⟩ := h.objW 0 u
  obtain ⟨l1, l2, l3⟩ := h.low
  obtain ⟨f1, f2, f3, f4⟩ := h.far
  refine ⟨?_, k1, h.wblk, k2, h.tblk, h.counts.of_block (k.block bk h.counts.lt l3.symm), h.low, (k.block x (blk_lt h.op) f1).trans h.op, (k.block q (blk_lt h.tch) f3).trans h.tch, h.far, h.wrote.trans k (fun b _ e => by cases e; exact h.foot.1), h.foot, Nat.le_trans h.size k.size⟩
  rw [blk_setCell h.obj]
  rfl
/-- behind the append to the touches -/
theorem grown (h : RMid F w0 w base r bk o0 o2 so dv ws D n f x q K a old v c) (hl : 0 < ws.length) {g cap : Nat} {y : Tch} (hown : w'.ownsRow base 182 3 (.slice (some ⟨g, 0, none⟩) (D.length + 1) cap) (D.length + 1) (D.flatMap tchCells ++ tchCells y))
    (hg : w.grownBy w' dv.ownBlock) (hor : dv.ownBlock = some g ∨ g = w.heap.size) : RMid F w0 w' base r bk o0 o2 so (.slice (some ⟨g, 0, none⟩) (D.length + 1) cap) ws (D ++ [y]) n f x q K a old v c := by
  have hne : ∀ b, b < w.heap.size → dv.ownBlock ≠ some b → g ≠ b := by
    intro b hb hn e
    subst e
    rcases hor with h1 | h1
    · exact hn h1
    · omega
  have blk : ∀ b, b < w.heap.size → dv.ownBlock ≠ some b → w'.heap[b]? = w.heap[b]? := fun b hb hn => hg.block b hb (fun e => hn e.symm)
  have hwl : ∀ b, so = some b → b.block < w.heap.size := by
    intro b hb
    have := World.block_lt_of_cell? w _ (h.words.cell b hb 0 hl)
    simpa [Addr.add] using this
  obtain ⟨t1, t2, t3, t4⟩ := h.tblk
  have lr := blk_lt h.obj
  have lx := blk_lt h.op
  have lq := blk_lt h.tch
  refine ⟨(blk r lr t1).trans h.obj, ⟨h.words.len, h.words.empty, fun b hb j hj => ?_⟩, fun b hb => ⟨(h.wblk b hb).1, (h.wblk b hb).2.1, (h.wblk b hb).2.2.1, fun e => ?_⟩, by simpa using hown, ?_, h.counts.of_block (blk bk h.counts.lt t2), h.low, (blk x lx t3).trans h.op, (blk q lq t4).trans h.tch, h.far, ?_, ⟨h.foot.1, h.foot.2.1, ?_⟩, Nat.le_trans h.size hg.size⟩
  · have hbl : (b.add j).block = b.block := by unfold Addr.add; split <;> rfl
    exact (World.cell?_of_block (w := w) (by rw [hbl]; exact blk _ (hwl b hb) (h.wblk b hb).2.2.2)).trans (h.words.cell b hb j hj)
  · have e' : g = b.block := by simpa [Value.ownBlock] using e
    exact hne _ (hwl b hb) (h.wblk b hb).2.2.2 e'
  · refine ⟨fun e => ?_, fun e => ?_, fun e => ?_, fun e => ?_⟩
    · exact hne r lr t1 (by simpa [Value.ownBlock] using e)
    · exact hne bk h.counts.lt t2 (by simpa [Value.ownBlock] using e)
    · exact hne x lx t3 (by simpa [Value.ownBlock] using e)
    · exact hne q lq t4 (by simpa [Value.ownBlock] using e)
  · exact h.wrote.grown hg (fun k hk hlt => h.foot.2.2 k hk hlt)
  · intro k hk hlt
    have e' : g = k := by simpa [Value.ownBlock] using hk
    subst e'
    rcases hor with h1 | h1
    · exact h.foot.2.2 _ h1 hlt
    · have := h.wrote.size
      omega
/-- behind the making of new words -/
theorem anew (h : RMid F w0 w base r bk o0 o2 so dv ws D n f x q K a old v c) (k : Wrote Nil w w') {so' : Option Addr} {ws' : List Int} (hl : ws'.length = ws.length) (hr : RowAt .u32 w' so' ws.length ws') (ho : ∀ b, so' = some b → so = some b ∨ w.heap.size ≤ b.block) :
    RMid F w0 w' base r bk o0 o2 so' dv ws' D n f x q K a old v c := by
  have h' := h.after k
  refine ⟨h'.obj, by rw [hl]; exact hr, fun b hb => ?_, h'.touched, h'.tblk, h'.counts, h'.low, h'.op, h'.tch, h'.far, h'.wrote, h'.foot, h'.size⟩
  rcases ho b hb with e | e
  · exact h.wblk b e
  · have l1 := blk_lt h.obj
    have l2 := h.counts.lt
    have l3 := h.size
    exact ⟨by omega, by omega, by omega, fun e' => by have := (h.touched.lt _ e').2; omega⟩
theorem cell0 (h : RMid F w0 w base r bk o0 o2 so dv ws D n f x q K a old v c) : w.cell? ⟨r, 0, none⟩ = some o0 := by rw [blk_cell h.obj]; rfl
theorem cell1 (h : RMid F w0 w base r bk o0 o2 so dv ws D n f x q K a old v c) : w.cell? ⟨r, 1, none⟩ = some (.int .i64 n) := by rw [blk_cell h.obj]; rfl
theorem cell2 (h : RMid F w0 w base r bk o0 o2 so dv ws D n f x q K a old v c) : w.cell? ⟨r, 2, none⟩ = some o2 := by rw [blk_cell h.obj]; rfl
theorem cell3 (h : RMid F w0 w base r bk o0 o2 so dv ws D n f x q K a old v c) : w.cell? ⟨r, 3, none⟩ = some (.slice (some ⟨bk, 0, none⟩) n n) := by rw [blk_cell h.obj]; rfl
theorem frozen (h : RMid F w0 w base r bk o0 o2 so dv ws D n f x q K a old v c) (k : Nat) : w.frozen? ⟨r, k, none⟩ = false := blk_frozen h.obj k
theorem op0 (h : RMid F w0 w base r bk o0 o2 so dv ws D n f x q K a old v c) : w.cell? ⟨x, 0, none⟩ = some (.int .i64 K) := by rw [blk_cell h.op]; rfl
theorem op1 (h : RMid F w0 w base r bk o0 o2 so dv ws D n f x q K a old v c) : w.cell? ⟨x, 1, none⟩ = some (.int .i64 a) := by rw [blk_cell h.op]; rfl
theorem op2 (h : RMid F w0 w base r bk o0 o2 so dv ws D n f x q K a old v c) : w.cell? ⟨x, 2, none⟩ = some (.int .u32 old) := by rw [blk_cell h.op]; rfl
theorem op3 (h : RMid F w0 w base r bk o0 o2 so dv ws D n f x q K a old v c) : w.cell? ⟨x, 3, none⟩ = some (.int .u32 v) := by rw [blk_cell h.op]; rfl
theorem t0 (h : RMid F w0 w base r bk o0 o2 so dv ws D n f x q K a old v c) : w.cell? ⟨q, 0, none⟩ = some (.int .i64 c.1) := by rw [blk_cell h.tch]; rfl
theorem t1 (h : RMid F w0 w base r bk o0 o2 so dv ws D n f x q K a old v c) : w.cell? ⟨q, 1, none⟩ = some (.int .i64 c.2.1) := by rw [blk_cell h.tch]; rfl
theorem t2 (h : RMid F w0 w base r bk o0 o2 so dv ws D n f x q K a old v c) : w.cell? ⟨q, 2, none⟩ = some (.bool c.2.2) := by rw [blk_cell h.tch]; rfl
theorem slice (h : RMid F w0 w base r bk o0 o2 so dv ws D n f x q K a old v c) : ∃ sa cap, dv = .slice sa D.length cap ∧ RecsAt tchCells 3 w sa D.length D := by
  obtain ⟨sa, cap, h1, h2, h3, h4⟩ := own_recs tch_len h.touched (by decide)
  exact ⟨sa, cap, h1, h3⟩
end RMid

theorem rmid_start {w Y : World} {base r bk : Nat} {so : Option Addr} {cap : Nat} {dv : Value} {s : PSta} (hr : RefAt w base r bk so cap dv s) (hbase : base ≤ w.heap.size) {K a old v : Int} (c : Tch) (nq : Nat)
    (hY : (w.alloc (.cells #[.int .i64 K, .int .i64 a, .int .u32 old, .int .u32 v] 179)).drewN nq = Y) :
    RMid (Foot r bk dv) w (Y.alloc (.cells #[.int .i64 c.1, .int .i64 c.2.1, .bool c.2.2] 182)) base r bk (.slice so s.ws.length cap) dv so dv s.ws s.D s.ac.length (cntV s) w.heap.size Y.heap.size K a old v c := by
  have hs : Y.heap.size = w.heap.size + 1 := by rw [← hY]; exact Go.Deep.nblk_alloc _ _
  have hb : Y.heap[w.heap.size]? = some (.cells #[.int .i64 K, .int .i64 a, .int .u32 old, .int .u32 v] 179 (0, 0)) := by rw [← hY]; exact Go.Deep.blk_alloc_new _ _
  have k : Wrote Nil w (Y.alloc (.cells #[.int .i64 c.1, .int .i64 c.2.1, .bool c.2.2] 182)) := by rw [← hY]; exact (((Wrote.refl Nil w).alloc _).drewN nq).alloc _
  have h := hr.after k fun _ _ => id
  have hlo := hr.touched.lt
  have l1 := blk_lt hr.obj
  have l2 := hr.counts.lt
  refine ⟨h.obj, h.words, h.wblk, h.touched, ⟨h.tblk.1, h.tblk.2, fun e => ?_, fun e => ?_⟩, h.counts, h.low, ?_, Go.Deep.blk_alloc_new _ _, by omega, k.mono (fun _ _ x => x.elim), ⟨.inl rfl, .inr (.inl rfl), fun j hj _ => .inr (.inr hj)⟩, ?_⟩
  · have := (hlo _ e).2; omega
  · have := (hlo _ e).2; omega
  · rw [Go.Deep.blk_alloc_lt _ _ _ (by omega)]; exact hb
  · rw [Go.Deep.nblk_alloc]; omega

theorem bump_getD {l : List Nat} {t : Nat} (ht : t < l.length) (k : Nat) : (bump l t true).getD k 0 = if k = t then l.getD t 0 + 1 else l.getD k 0 := by
  simp only [bump, if_pos]
  rw [List.getD_eq_getElem?_getD, List.getElem?_set]
  by_cases e : t = k
  · subst e; simp [ht]
  · rw [if_neg e, if_neg (fun x => e x.symm)]; rfl
theorem cnt_set0 {s : PSta} {t : Nat} (ht : t < s.ac.length) (j : Nat) : (if j = t * 3 then Value.int .i64 (((s.ac.getD t 0 : Nat) : Int) + 1) else cntV s j) = cntV { s with ac := bump s.ac t true } j := by
  unfold cntV cntN
  simp only
  rw [bump_getD ht]
  by_cases e : j = t * 3
  · subst e; rw [if_pos rfl, if_pos (by omega), if_pos (by omega)]; rfl
  · rw [if_neg e]
    by_cases h : j % 3 = 0
    · rw [if_pos h, if_pos h, if_neg (by omega)]
    · rw [if_neg h, if_neg h]
theorem cnt_set1 {s : PSta} {t : Nat} (ht : t < s.wc.length) (j : Nat) : (if j = t * 3 + 1 then Value.int .i64 (((s.wc.getD t 0 : Nat) : Int) + 1) else cntV s j) = cntV { s with wc := bump s.wc t true } j := by
  unfold cntV cntN
  simp only
  rw [bump_getD ht]
  by_cases e : j = t * 3 + 1
  · subst e; rw [if_pos rfl, if_neg (by omega), if_pos (by omega), if_pos (by omega)]; rfl
  · rw [if_neg e]
    by_cases h : j % 3 = 0
    · rw [if_pos h, if_pos h]
    · rw [if_neg h, if_neg h]
      by_cases h' : j % 3 = 1
      · rw [if_pos h', if_pos h', if_neg (by omega)]
      · rw [if_neg h', if_neg h']
theorem cnt_set2 {s : PSta} {t : Nat} (ht : t < s.mc.length) (j : Nat) : (if j = t * 3 + 2 then Value.int .i64 (((s.mc.getD t 0 : Nat) : Int) + 1) else cntV s j) = cntV { s with mc := bump s.mc t true } j := by
  unfold cntV cntN
  simp only
  rw [bump_getD ht]
  by_cases e : j = t * 3 + 2
  · subst e; rw [if_pos rfl, if_neg (by omega), if_neg (by omega), if_pos (by omega)]; rfl
  · rw [if_neg e]
    by_cases h : j % 3 = 0
    · rw [if_pos h, if_pos h]
    · rw [if_neg h, if_neg h]
      by_cases h' : j % 3 = 1
      · rw [if_pos h', if_pos h']
      · rw [if_neg h', if_neg h', if_neg (by omega)]

theorem tch_one (x : Tch) : ∀ u ∈ tchCells x, u.oneCell' = true := by
  intro u hu
  simp only [tchCells, List.mem_cons, List.not_mem_nil, or_false] at hu
  rcases hu with rfl | rfl | rfl <;> rfl
theorem tch_news (w : World) (x : Tch) (t : TypeId) : ∀ (j : Nat) (u : Value), (tchCells x)[j]? = some u → (w.alloc (.cells #[.int .i64 x.1, .int .i64 x.2.1, .bool x.2.2] t)).drew.cell? ((⟨w.heap.size, 0, none⟩ : Addr).add j) = some u := by
  intro j u hu
  show (w.alloc (.cells #[.int .i64 x.1, .int .i64 x.2.1, .bool x.2.2] t)).cell? _ = _
  rw [Go.Addr.add_lit, Nat.zero_add, blk_cell (Go.Deep.blk_alloc_new w _)]
  have hj : j < 3 := (List.getElem?_eq_some_iff.1 hu).1
  have : j = 0 ∨ j = 1 ∨ j = 2 := by omega
  rcases this with rfl | rfl | rfl <;> exact hu
theorem tch_size (w : World) (o : Obj) : (w.alloc o).drew.heap.size = w.heap.size + 1 := Go.Deep.nblk_alloc w o
theorem own_after {w : World} {base : Nat} {e : TypeId} {size : Nat} {v : Value} {n : Nat} {xs : List Value} (h : w.ownsRow base e size v n xs) (o : Obj) : (w.alloc o).drew.ownsRow base e size v n xs := h.alloc o

def RMidPost (F : Nat → Prop) (w0 : World) (base r bk : Nat) (o0 o2 : Value) (ws : List Int) (D : List Tch) (n : Nat) (f : Nat → Value) (x q : Nat) (K a old v : Int) (c : Tch) (e : Ending) (w' : World) : Prop :=
  ∃ so cap, e = .returned (.tuple #[.slice so ws.length cap, .int .u32 (tellI ws K a), .int .i64 (didI ws K a old)]) ∧ RMid F w0 w' base r bk o0 o2 so o2 (doL ws K a old v) D n f x q K a old v c
theorem rmid_do {F : Nat → Prop} {w0 w : World} {base r bk : Nat} {o2 : Value} {so : Option Addr} {cap : Nat} {ws : List Int} {D : List Tch} {n : Nat} {f : Nat → Value} {x q : Nat} {K a old v : Int} {c : Tch} (h : RMid F w0 w base r bk (.slice so ws.length cap) o2 so o2 ws D n f x q K a old v c)
    (hl : ws.length ≤ 1000000) (v0 : 0 ≤ v) (v1 : v < 4294967296) :
    Calls Tryz.prog 121 #[.slice so ws.length cap, .agg #[.int .i64 K, .int .i64 a, .int .u32 old, .int .u32 v]] w (RMidPost F w0 base r bk (.slice so ws.length cap) o2 ws D n f x q K a old v c) := by
  refine (do_any h.words hl K a old v v0 v1).mono ?_
  rintro e w' ⟨so', cap', he, hr, hW, ho⟩
  exact ⟨so', cap', he, h.anew hW (doL_len _ _ _ _ _) hr ho⟩

theorem storeL_rng {ws : List Int} {a v : Int} (h : ∀ z ∈ ws, 0 ≤ z ∧ z < 4294967296) (v0 : 0 ≤ v) (v1 : v < 4294967296) : ∀ z ∈ storeL ws a v, 0 ≤ z ∧ z < 4294967296 := by
  intro z hz
  unfold storeL at hz
  split at hz
  · rcases List.mem_or_eq_of_mem_set hz with hz | rfl
    · exact h z hz
    · exact ⟨v0, v1⟩
  · exact h z hz
theorem doL_rng {ws : List Int} {K a old v : Int} (h : ∀ z ∈ ws, 0 ≤ z ∧ z < 4294967296) (v0 : 0 ≤ v) (v1 : v < 4294967296) : ∀ z ∈ doL ws K a old v, 0 ≤ z ∧ z < 4294967296 := by
  unfold doL casL addL
  split
  · exact storeL_rng h v0 v1
  · split
    · split
      · exact storeL_rng h v0 v1
      · exact h
    · split
      · exact storeL_rng h (by omega) (by omega)
      · exact h
theorem ok_at {s : PSta} {t a : Nat} {K : Int} (ht : t < s.ac.length) (ha : a < s.ws.length) (k1 : 1 ≤ K) (k5 : K ≤ 5) : okS s t K a = true := by
  unfold okS
  rw [okT_at ht ha]
  simp [k1, k5]
theorem tell_ok {s : PSta} {t a : Nat} {K old : Int} (ht : t < s.ac.length) (ha : a < s.ws.length) (k1 : 1 ≤ K) (k5 : K ≤ 5) : tellS s t K a = tellI s.ws K a ∧ didS s t K a old = didI s.ws K a old := by
  unfold tellS didS
  rw [ok_at ht ha k1 k5]
  exact ⟨rfl, rfl⟩
theorem rmid_end {F : Nat → Prop} {w0 w : World} {base r bk : Nat} {so so0 : Option Addr} {cap cap0 : Nat} {dv dv0 : Value} {s : PSta} {t a x q : Nat} {K old v : Int} {wr b : Bool} {c : Tch} (hr : RefAt w0 base r bk so0 cap0 dv0 s) (ht : t < s.ac.length) (ha : a < s.ws.length) (k1 : 1 ≤ K) (k5 : K ≤ 5)
    (hwr : wr = decide (1 < K)) (hb : b = missL s.D t a wr s.ac.length) (v0 : 0 ≤ v) (v1 : v < 4294967296)
    (h : RMid F w0 w base r bk (.slice so s.ws.length cap) dv so dv (doL s.ws K a old v) (s.D ++ [((t : Int), (a : Int), wr)]) s.ac.length (cntV { s with ac := bump s.ac t true, wc := bump s.wc t wr, mc := bump s.mc t b }) x q K a old v c) :
    RefSt w base r (doS s t K a old v) ∧ Wrote F w0 w := by
  have hd : doS s t K a old v = { ws := doL s.ws K a old v, D := s.D ++ [((t : Int), (a : Int), wr)], ac := bump s.ac t true, wc := bump s.wc t wr, mc := bump s.mc t b } := by
    unfold doS
    rw [ok_at ht ha k1 k5, if_pos rfl]
    unfold touchS
    rw [← hwr, ← hb, Int.toNat_natCast]
  rw [hd]
  refine ⟨⟨bk, so, cap, dv, ?_⟩, h.wrote⟩
  have hl : (doL s.ws K a old v).length = s.ws.length := doL_len _ _ _ _ _
  have hD : (s.D ++ [((t : Int), (a : Int), wr)]).length = s.D.length + 1 := by simp
  refine ⟨?_, h.words, h.wblk, h.touched, ⟨h.tblk.1, h.tblk.2.1⟩, ?_, by simp [bump_len, hr.lv], by simp [bump_len, hr.lm], ?_, ?_, ?_, doL_rng hr.rngW v0 v1, h.low⟩
  · have := h.obj
    simpa [bump_len, hl] using this
  · show w.rowIs bk _ ((bump s.ac t true).length * 3) _
    rw [bump_len]
    exact h.counts
  · intro y hy
    rw [hD]
    exact bump_le hr.rngA y (show y ∈ bump s.ac t true from hy)
  · intro y hy
    rw [hD]
    exact bump_le hr.rngV y (show y ∈ bump s.wc t wr from hy)
  · intro y hy
    rw [hD]
    exact bump_le hr.rngM y (show y ∈ bump s.mc t b from hy)

set_option maxRecDepth 100000 in
set_option maxHeartbeats 1000000 in
theorem rdo_ok {w : World} {base r bk : Nat} {so : Option Addr} {cap : Nat} {dv : Value} {s : PSta} (h : RefAt w base r bk so cap dv s) (t a : Nat) (K old v : Int) (ht : t < s.ac.length) (ha : a < s.ws.length) (k1 : 1 ≤ K) (k5 : K ≤ 5) (v0 : 0 ≤ v) (v1 : v < 4294967296) (hD : s.D.length < 1000000) (hws : s.ws.length ≤ 4096) (hac : s.ac.length ≤ 64) (hbase : base ≤ w.heap.size) :
    Calls Tryz.prog 119 #[.pointer (some ⟨r, 0, none⟩), .int .i64 t, .agg #[.int .i64 K, .int .i64 a, .int .u32 old, .int .u32 v]] w (RDoPost base r bk dv (doS s t K a old v) (tellS s t K a) (didS s t K a old) w) := by
  obtain ⟨F, hF⟩ : ∃ F, F = Foot r bk dv := ⟨_, rfl⟩
  obtain ⟨X, hX⟩ : ∃ X, X = w.alloc (.cells #[.int .i64 K, .int .i64 a, .int .u32 old, .int .u32 v] 179) := ⟨_, rfl⟩
  have hW : Wrote Nil w X := by rw [hX]; exact (Wrote.refl _ _).alloc _
  have hR := h.after hW fun _ _ => id
  have x0 : X.cell? ⟨w.heap.size, 0, none⟩ = some (.int .i64 K) := by rw [hX]; simp
  have x1 : X.cell? ⟨w.heap.size, 1, none⟩ = some (.int .i64 a) := by rw [hX]; simp
  have c0 := hR.cell0
  have c1 := hR.cell1
  have HR := Lib.hid (And.intro hR (And.intro hW (And.intro h hX)))
  have d1 : decide ((t : Int) < 0) = false := decide_eq_false (by omega)
  have d2 : decide ((s.ac.length : Int) ≤ t) = false := decide_eq_false (by omega)
  have d2' : decide (s.ac.length ≤ t) = false := decide_eq_false (by omega)
  have d3 : decide ((a : Int) < 0) = false := decide_eq_false (by omega)
  have d4 : decide ((s.ws.length : Int) ≤ a) = false := decide_eq_false (by omega)
  have d4' : decide (s.ws.length ≤ a) = false := decide_eq_false (by omega)
  have d5 : decide (K < 1) = false := decide_eq_false (by omega)
  have d6 : decide (5 < K) = false := decide_eq_false (by omega)
  clear hR hW h hX
  go_enter Tryz.func119, Tryz.ntmps119
  go_wp2
  rw [← HR.out.2.2.2]
  go_big_quiet (fail)
  generalize hY : X.drewN nq = Y
  have y0 : Y.cell? ⟨w.heap.size, 0, none⟩ = some (.int .i64 K) := by rw [← hY]; exact x0
  have y1 : Y.cell? ⟨w.heap.size, 1, none⟩ = some (.int .i64 a) := by rw [← hY]; exact x1
  have M0 := rmid_start (Y := Y) HR.out.2.2.1 hbase ((t : Int), (a : Int), decide (1 < K)) nq (by rw [HR.out.2.2.2] at hY; exact hY)
  rw [← hF] at M0
  have HF := Lib.hid hF
  clear hF
  have M := Lib.hid M0
  clear x0 x1 c0 c1 hY M0 d1 d2 d2' d3 d4 d4' d5 d6
  go_wp2
  clear y0 y1
  generalize Y.alloc (.cells #[.int .i64 (t : Int), .int .i64 (a : Int), .bool (decide (1 < K))] 182) = Z at M ⊢
  generalize Y.heap.size = q at M ⊢
  obtain ⟨wr, hwr⟩ : ∃ b, b = decide (1 < K) := ⟨_, rfl⟩
  rw [← hwr] at M
  have HK := Lib.hid (And.intro hwr (And.intro k1 k5))
  clear hwr k1 k5
  have c3 := M.out.cell3
  have e2 := M.out.t2
  have f0 := M.out.counts.cell (show t * 3 < s.ac.length * 3 by omega)
  have f1 := M.out.counts.cell (show t * 3 + 1 < s.ac.length * 3 by omega)
  unfold cntV at f0 f1
  rw [cnt0] at f0
  rw [cnt1] at f1
  have b0 : ((s.ac.getD t 0 : Nat) : Int) + 1 ≤ 9223372036854775807 := by have := getD_le HR.out.2.2.1.rngA t; omega
  have b1 : ((s.wc.getD t 0 : Nat) : Int) + 1 ≤ 9223372036854775807 := by have := getD_le HR.out.2.2.1.rngV t; omega
  obtain ⟨xa, hxa⟩ : ∃ x, x = s.ac.getD t 0 := ⟨_, rfl⟩
  obtain ⟨xv, hxv⟩ : ∃ x, x = s.wc.getD t 0 := ⟨_, rfl⟩
  rw [← hxa] at f0 b0
  rw [← hxv] at f1 b1
  have HX := Lib.hid (And.intro hxa hxv)
  clear hxa hxv
  have z0 := M.out.counts.frozen (t * 3)
  have z1 := M.out.counts.frozen (t * 3 + 1)
  have n1 : ¬ q = bk := M.out.far.2.2.2
  have n2 : ¬ r = bk := M.out.low.2.2
  have ht' : (t : Int) < s.ac.length := by omega
  have ht0 : (0 : Int) ≤ t := by omega
  have hlv := HR.out.2.2.1.lv
  have m1 : RMid F w (Z.setCell ⟨bk, t * 3, none⟩ (.int .i64 ((xa : Int) + 1))).drew base r bk (.slice so s.ws.length cap) dv so dv s.ws s.D s.ac.length (cntV { s with ac := bump s.ac t true, wc := bump s.wc t false }) w.heap.size q K a old v ((t : Int), (a : Int), wr) :=
    ((M.out.store (t * 3) (.int .i64 ((xa : Int) + 1))).congr (g := cntV { s with ac := bump s.ac t true }) (fun j _ => by rw [HX.out.1]; exact cnt_set0 ht j)).after (Wrote.refl Nil _).drew
  have m2 : RMid F w ((Z.setCell ⟨bk, t * 3, none⟩ (.int .i64 ((xa : Int) + 1))).setCell ⟨bk, t * 3 + 1, none⟩ (.int .i64 ((xv : Int) + 1))).drew.drew base r bk (.slice so s.ws.length cap) dv so dv s.ws s.D s.ac.length (cntV { s with ac := bump s.ac t true, wc := bump s.wc t true }) w.heap.size q K a old v ((t : Int), (a : Int), wr) :=
    ((m1.store (t * 3 + 1) (.int .i64 ((xv : Int) + 1))).congr (g := cntV { s with ac := bump s.ac t true, wc := bump s.wc t true }) (fun j _ => by rw [HX.out.2]; exact cnt_set1 (s := { s with ac := bump s.ac t true }) (by rw [hlv]; exact ht) j)).after (Wrote.refl Nil _).drew
  have HM1 := Lib.hid m1
  have HM2 := Lib.hid m2
  clear m1 m2 hlv
  have hmv := HR.out.2.2.1.lm
  have hrm := HR.out.2.2.1.rngM
  have HKK := Lib.hid (And.intro hmv (And.intro hrm (And.intro v0 v1)))
  have hap : 0 < s.ws.length := by omega
  have HA := Lib.hid ha
  clear hmv hrm v0 v1 ha
  refine wp_region_tail 11 (by kernel_rfl) (by kernel_rfl) ?_
  simp only [List.take_succ_cons, List.take_zero, List.drop_succ_cons, List.drop_zero]
  repeat still_step
  refine wpStill_nil ?_
  go_upto_if 66 with fail
  go_cut [] from 54 (fun w' => RMid F w w' base r bk (.slice so s.ws.length cap) dv so dv s.ws s.D s.ac.length (cntV { s with ac := bump s.ac t true, wc := bump s.wc t wr }) w.heap.size q K a old v ((t : Int), (a : Int), wr))
  case first =>
    cases wr
    · go_wp2
      go_meet
      exact HM1.out
    · go_wp2
      refine wp_region_tail 11 (by kernel_rfl) (by kernel_rfl) ?_
      simp only [List.take_succ_cons, List.take_zero, List.drop_succ_cons, List.drop_zero]
      repeat still_step
      refine wpStill_nil ?_
      go_wp2
      go_meet
      exact HM2.out
  case rest =>
    clear HM1 HM2 c3 f0 f1 z0 z1 M HX b0 b1 e2 n1 n2
    have hb : ∃ b, b = missL s.D t a wr s.ac.length := ⟨_, rfl⟩
    obtain ⟨b, hb⟩ := hb
    obtain ⟨sa, cp, hdv, hrec⟩ := hcut.slice
    subst hdv
    have g1 := hcut.cell1
    have g2 := hcut.cell2
    have t0 := hcut.t0
    have t1 := hcut.t1
    have t2 := hcut.t2
    have cM : Calls Tryz.prog 120 #[.slice sa s.D.length cp, .agg #[.int .i64 t, .int .i64 a, .bool wr], .int .i64 s.ac.length] wc.drew fun e w' => e = .returned (.bool b) ∧ RMid F w w' base r bk (.slice so s.ws.length cap) (.slice sa s.D.length cp) so (.slice sa s.D.length cp) s.ws s.D s.ac.length (cntV { s with ac := bump s.ac t true, wc := bump s.wc t wr }) w.heap.size q K a old v ((t : Int), (a : Int), wr) := by
      rw [hb]
      exact (ref_miss (cap := cp) (m := s.ac.length) (hrec.after (Wrote.refl Nil wc).drew) (by omega) (t : Int) (a : Int) wr (by omega)).mono fun e w' h => ⟨h.1, hcut.after ((Wrote.refl Nil wc).drew.nil h.2)⟩
    have HB := Lib.hid hb
    clear hcut hrec hb
    go_upto_region 7 with fail
    refine wp_region_tail 9 (by kernel_rfl) (by kernel_rfl) ?_
    simp only [List.take_succ_cons, List.take_zero, List.drop_succ_cons, List.drop_zero]
    repeat still_step
    refine wpStill_nil ?_
    go_upto_if 87 with (go_at_call 120; with_reducible refine cM.mono ?_; rintro e w3 ⟨rfl, M3⟩)
    go_cut [] from 54 (fun w' => RMid F w w' base r bk (.slice so s.ws.length cap) (.slice sa s.D.length cp) so (.slice sa s.D.length cp) s.ws s.D s.ac.length (cntV { s with ac := bump s.ac t true, wc := bump s.wc t wr, mc := bump s.mc t b }) w.heap.size q K a old v ((t : Int), (a : Int), wr))
    case first =>
      cases b
      · go_wp2
        go_meet
        exact M3
      · have c3 := M3.cell3
        have f2 := M3.counts.cell (show t * 3 + 2 < s.ac.length * 3 by omega)
        unfold cntV at f2
        rw [cnt2] at f2
        have z2 := M3.counts.frozen (t * 3 + 2)
        have b2 : ((s.mc.getD t 0 : Nat) : Int) + 1 ≤ 9223372036854775807 := by have := getD_le HKK.out.2.1 t; omega
        have m4 := ((M3.store (t * 3 + 2) (.int .i64 (((s.mc.getD t 0 : Nat) : Int) + 1))).congr (g := cntV { s with ac := bump s.ac t true, wc := bump s.wc t wr, mc := bump s.mc t true }) (fun j _ => cnt_set2 (s := { s with ac := bump s.ac t true, wc := bump s.wc t wr }) (by show t < s.mc.length; rw [HKK.out.1]; exact ht) j)).after (Wrote.refl Nil _).drew
        obtain ⟨xm, hxm⟩ : ∃ x, x = s.mc.getD t 0 := ⟨_, rfl⟩
        rw [show ({ s with ac := bump s.ac t true, wc := bump s.wc t wr } : PSta).mc.getD t 0 = s.mc.getD t 0 from rfl, ← hxm] at f2
        rw [← hxm] at b2 m4
        have HM4 := Lib.hid m4
        clear M3 hxm m4
        go_wp2
        refine wp_region_tail 11 (by kernel_rfl) (by kernel_rfl) ?_
        simp only [List.take_succ_cons, List.take_zero, List.drop_succ_cons, List.drop_zero]
        repeat still_step
        refine wpStill_nil ?_
        go_wp2
        go_meet
        exact HM4.out
    case rest =>
      clear cM M3 g1 g2 t0 t1 t2
      have g2 := hcut.cell2
      have g2' := (hcut.after ((Wrote.refl Nil wc).alloc (.cells #[.int .i64 t, .int .i64 a, .bool wr] 182))).cell2
      have t0 := hcut.t0
      have t1 := hcut.t1
      have t2 := hcut.t2
      have own := hcut.touched
      have hsz := hcut.size
      have hnew := tch_news wc ((t : Int), (a : Int), wr) 182
      have M5 : ∀ g cp2 w5, w5.ownsRow base 182 3 (.slice (some ⟨g, 0, none⟩) (s.D.length + 1) cp2) (s.D.length + 1) (s.D.flatMap tchCells ++ tchCells ((t : Int), (a : Int), wr)) → (wc.alloc (.cells #[.int .i64 t, .int .i64 a, .bool wr] 182)).drew.grownBy w5 (Value.slice sa s.D.length cp).ownBlock →
          ((Value.slice sa s.D.length cp).ownBlock = some g ∨ g = (wc.alloc (.cells #[.int .i64 t, .int .i64 a, .bool wr] 182)).drew.heap.size) → RMid F w w5 base r bk (.slice so s.ws.length cap) (.slice sa s.D.length cp) so (.slice (some ⟨g, 0, none⟩) (s.D.length + 1) cp2) s.ws (s.D ++ [((t : Int), (a : Int), wr)]) s.ac.length (cntV { s with ac := bump s.ac t true, wc := bump s.wc t wr, mc := bump s.mc t b }) w.heap.size q K a old v ((t : Int), (a : Int), wr) :=
        fun g cp2 w5 h1 h2 h3 => (hcut.after ((Wrote.refl Nil wc).alloc _).drew).grown hap h1 h2 h3
      have HM5 := Lib.hid M5
      have HO := Lib.hid (And.intro own (And.intro hsz hnew))
      clear hcut M5 own hsz hnew
      obtain ⟨i0, hi, hz0, hz1, hz2⟩ := info_parts info_tch
      go_upto_region 9 with fail
      go_cut [] from 54 (fun w' => ∃ g cp2, RMid F w w' base r bk (.slice so s.ws.length cap) (.slice (some ⟨g, 0, none⟩) (s.D.length + 1) cp2) so (.slice (some ⟨g, 0, none⟩) (s.D.length + 1) cp2) s.ws (s.D ++ [((t : Int), (a : Int), wr)]) s.ac.length (cntV { s with ac := bump s.ac t true, wc := bump s.wc t wr, mc := bump s.mc t b }) w.heap.size q K a old v ((t : Int), (a : Int), wr))
      case first =>
        go_region_law (refine step_append_lies _ rfl _ _ 81 rfl base 182 i0 (.agg #[.int .i64 0, .int .i64 0, .bool false]) 3 24 Tryz.underlying81 hi hz0 hz1 hz2 rfl (by decide) (.slice sa s.D.length cp) s.D.length (s.D.flatMap tchCells) (by simp [Act.eval]) (own_after HO.out.1 _) ⟨wc.heap.size, 0, none⟩ 1 1 (tchCells ((t : Int), (a : Int), wr)) (by simp [Act.eval]) rfl HO.out.2.2 (tch_one _) (by decide) (by unfold maxLen; omega) (by omega) (by have := HO.out.2.1; rw [tch_size]; omega) _ rfl ?_; intro g cp2 w5 hown hgrow hor hlt; have m5 := HM5.out g cp2 w5 hown hgrow hor; have r2 := m5.cell2; have rf := m5.frozen 2; have HM6 := Lib.hid (m5.store2 (.slice (some ⟨g, 0, none⟩) (s.D.length + 1) cp2)); clear m5 hown hgrow hor hlt)
        all_goals
          go_wp2
          go_meet
          exact ⟨g, cp2, HM6.out⟩
      case rest =>
        clear HM5 HO g2 g2' t0 t1 t2
        obtain ⟨g, cp2, hM⟩ := hcut
        have g0 := hM.cell0
        have p0 := hM.op0
        have p1 := hM.op1
        have p2 := hM.op2
        have p3 := hM.op3
        have cD : Calls Tryz.prog 121 #[.slice so s.ws.length cap, .agg #[.int .i64 K, .int .i64 a, .int .u32 old, .int .u32 v]] wc.drew (RMidPost F w base r bk (.slice so s.ws.length cap) (.slice (some ⟨g, 0, none⟩) (s.D.length + 1) cp2) s.ws (s.D ++ [((t : Int), (a : Int), wr)]) s.ac.length (cntV { s with ac := bump s.ac t true, wc := bump s.wc t wr, mc := bump s.mc t b }) w.heap.size q K a old v ((t : Int), (a : Int), wr)) :=
          rmid_do (hM.after (Wrote.refl Nil wc).drew) (by omega) HKK.out.2.2.1 HKK.out.2.2.2
        have HM := Lib.hid hM
        clear hM
        go_upto_region 10 with fail
        go_region_with (go_at_call 121; with_reducible refine cD.mono ?_; intro e w8 h8; unfold RMidPost at h8; obtain ⟨so8, cap8, rfl, hM8⟩ := h8; have r0 := hM8.cell0; have rf := hM8.frozen 0; have HM8 := Lib.hid (hM8.store0 (.slice so8 s.ws.length cap8)); clear hM8 HM cD)
        all_goals
          go_wp2
          go_ret2
          obtain ⟨e1, e2⟩ := tell_ok (s := s) (t := t) (K := K) (a := a) (old := old) ht HA.out HK.out.2.1 HK.out.2.2
          unfold RDoPost
          rw [← HF.out]
          refine ⟨by rw [e1, e2] <;> rfl, ?_⟩
          exact rmid_end HR.out.2.2.1 ht HA.out HK.out.2.1 HK.out.2.2 HK.out.1 HB.out HKK.out.2.2.1 HKK.out.2.2.2 HM8.out

theorem rdo_any {w : World} {base r bk : Nat} {so : Option Addr} {cap : Nat} {dv : Value} {s : PSta} (h : RefAt w base r bk so cap dv s) (t K a old v : Int) (v0 : 0 ≤ v) (v1 : v < 4294967296) (hD : s.D.length < 1000000) (hws : s.ws.length ≤ 4096) (hac : s.ac.length ≤ 64) (hbase : base ≤ w.heap.size) :
    Calls Tryz.prog 119 #[.pointer (some ⟨r, 0, none⟩), .int .i64 t, .agg #[.int .i64 K, .int .i64 a, .int .u32 old, .int .u32 v]] w (RDoPost base r bk dv (doS s t K a old v) (tellS s t K a) (didS s t K a old) w) := by
  by_cases hn : t < 0 ∨ (¬ t < 0 ∧ s.ac.length ≤ t) ∨ (¬ t < 0 ∧ ¬ s.ac.length ≤ t ∧ a < 0) ∨ (¬ t < 0 ∧ ¬ s.ac.length ≤ t ∧ ¬ a < 0 ∧ s.ws.length ≤ a) ∨ (¬ t < 0 ∧ ¬ s.ac.length ≤ t ∧ ¬ a < 0 ∧ ¬ s.ws.length ≤ a ∧ K < 1) ∨ (¬ t < 0 ∧ ¬ s.ac.length ≤ t ∧ ¬ a < 0 ∧ ¬ s.ws.length ≤ a ∧ ¬ K < 1 ∧ 5 < K)
  · have hok : okS s t K a = false := by
      unfold okS
      by_cases h1 : 0 ≤ t ∧ t < s.ac.length ∧ 0 ≤ a ∧ a < s.ws.length
      · rw [show decide (1 ≤ K ∧ K ≤ 5) = false from decide_eq_false (by omega), Bool.and_false]
      · rw [okT_not h1, Bool.false_and]
    have e1 : doS s t K a old v = s := by unfold doS; rw [hok]; rfl
    have e2 : tellS s t K a = 0 := by unfold tellS; rw [hok]; rfl
    have e3 : didS s t K a old = 0 := by unfold didS; rw [hok]; rfl
    rw [e1, e2, e3]
    exact rdo_not h t K a old v hn
  · obtain ⟨t, rfl⟩ := Int.eq_ofNat_of_zero_le (show 0 ≤ t by omega)
    obtain ⟨a, rfl⟩ := Int.eq_ofNat_of_zero_le (show 0 ≤ a by omega)
    exact rdo_ok h t a K old v (by omega) (by omega) (by omega) (by omega) v0 v1 hD hws hac hbase
end Go.Proofs.YteacdcdjdbobnaaGreat
