/- The contract of package pool's Give. -/
import Derived.Test.YtjkheoiebabkhaaPoolDo
import Derived.StillTailTactics
import Derived.Deep.AppendLies
import Derived.Deep.Cut
import Derived.Deep.RegionHeld3
namespace Go.Proofs.Ytjkheoiebabkhaa
open Go.RowKit
set_option linter.unusedVariables false

/-! ### plain -/
def without (l : List Nat) (id : Nat) : List Nat := l.filter fun x => !decide (x = id)
def PS.give (s : PS) (id : Nat) (to : Int) : PS := { s with own := upd s.own id to, row := fun t => without (s.row t) id ++ if to = (t : Int) then [id] else [] }
theorem without_not {l : List Nat} {id : Nat} (h : id ∉ l) : without l id = l := by
  unfold without
  rw [List.filter_eq_self]
  intro x hx
  have : x ≠ id := fun e => h (e ▸ hx)
  simp [this]
theorem without_erase : ∀ {l : List Nat} {i id : Nat}, l.Nodup → l[i]? = some id → l.eraseIdx i = without l id
  | [], i, id, _, h => by simp at h
  | x :: r, 0, id, hd, h => by
    obtain rfl : x = id := by simpa using h
    have hx : x ∉ r := (List.nodup_cons.1 hd).1
    have e := without_not hx
    unfold without at e ⊢
    rw [List.eraseIdx_cons_zero, List.filter_cons, if_neg (by simp), e]
  | x :: r, i + 1, id, hd, h => by
    have h' : r[i]? = some id := by simpa using h
    have hx : x ≠ id := fun e => (List.nodup_cons.1 hd).1 (e ▸ List.mem_of_getElem? h')
    have e := without_erase (List.nodup_cons.1 hd).2 h'
    unfold without at e ⊢
    rw [List.eraseIdx_cons_succ, List.filter_cons, if_pos (by simp [hx]), e]
theorem idx_mem {l : List Nat} {id : Nat} (h : id ∈ l) : ∃ i : Nat, l[i]? = some id ∧ idxI (fun x : Nat => decide ((x : Int) = (id : Int))) l = (i : Int) := by
  cases hf : l.find? (fun x : Nat => decide ((x : Int) = (id : Int))) with
  | none =>
    rw [List.find?_eq_none] at hf
    exact absurd (hf id h) (by simp)
  | some y =>
    have hy : y = id := by
      have := List.find?_some hf
      simp at this
      omega
    subst hy
    exact find_idx hf

theorem flat_same {α β : Type} {f g : α → List β} : ∀ {l : List α}, (∀ x ∈ l, f x = g x) → l.flatMap f = l.flatMap g
  | [], _ => rfl
  | x :: r, h => by rw [List.flatMap_cons, List.flatMap_cons, h x (by simp), flat_same fun y hy => h y (by simp [hy])]
theorem PoolAt.congr {w : World} {q : Pp} {s s' : PS} (h : PoolAt w q s) (hn : s'.n = s.n) (hT : s'.T = s.T) (ho : ∀ id, 1 ≤ id → id ≤ s.n → s'.own id = s.own id ∧ s'.out id = s.out id) (hr : ∀ t, t < s.T → s'.row t = s.row t) : PoolAt w q s' := by
  refine ⟨by rw [hT]; exact h.obj, ?_, by rw [hT]; exact h.rows, fun t ht => ?_, by rw [hT]; exact h.apart, by rw [hT]; exact h.far, h.low⟩
  · rw [hn]
    have e : (ids s.n).flatMap (nodeC s') = (ids s.n).flatMap (nodeC s) := by
      refine flat_same fun x hx => ?_
      obtain ⟨k, hk⟩ := List.getElem?_of_mem hx
      obtain ⟨hk, rfl⟩ := ids_some hk
      obtain ⟨e1, e2⟩ := ho (k + 1) (by omega) (by omega)
      simp [nodeC, e1, e2]
    rw [e]
    exact h.nodes
  · rw [hT] at ht
    rw [hr t ht]
    exact h.row t ht

/-- what is there while a node is given away: the pool, its row taken out or laid on, and the number that is given -/
structure GMid (w : World) (q : Pp) (s s' : PS) (B : Nat) (id : Nat) (q' : Pp) (wr : World) : Prop where
  p : q'.p = q.p
  nv : q'.nv = q.nv
  rb : q'.rb = q.rb
  pool : PoolAt wr q' s'
  wrote : Wrote (q.F s.T) w wr
  grew : Grew w (q.F s.T) (q'.F s.T)
  box : wr.heap[B]? = some (.cells #[.int .i64 (id : Int)] 3 (0, 0))
  new : w.heap.size ≤ B
  far : ¬ q'.F s.T B
namespace GMid
variable {w wr wr' : World} {q q' : Pp} {s s' : PS} {B id : Nat}
theorem after (h : GMid w q s s' B id q' wr) (k : Wrote Nil wr wr') : GMid w q s s' B id q' wr' :=
  ⟨h.p, h.nv, h.rb, h.pool.after k, h.wrote.trans k (fun _ _ x => x.elim), h.grew, (k.block B (blk_lt h.box) fun x => x).trans h.box, h.new, h.far⟩
theorem congr {s'' : PS} (h : GMid w q s s' B id q' wr) (hn : s''.n = s'.n) (hT : s''.T = s'.T) (ho : ∀ id, 1 ≤ id → id ≤ s'.n → s''.own id = s'.own id ∧ s''.out id = s'.out id) (hr : ∀ t, t < s'.T → s''.row t = s'.row t) : GMid w q s s'' B id q' wr :=
  ⟨h.p, h.nv, h.rb, h.pool.congr hn hT ho hr, h.wrote, h.grew, h.box, h.new, h.far⟩
/-- a row turned -/
theorem setRow (h : GMid w q s s' B id q' wr) (hT : s'.T = s.T) {t : Nat} (ht : t < s.T) {v : Value} {l : List Nat} {w1 : World} (hown : w1.ownsRow 0 3 1 v l.length (l.map idv)) (hW : Wrote (fun k => (q'.rv t).ownBlock = some k) wr w1) (hat : ∀ k, v.ownBlock = some k → (q'.rv t).ownBlock = some k ∨ wr.heap.size ≤ k) :
    GMid w q s (s'.setRow t l) B id (q'.setR t v) (w1.setCell ⟨q.rb, t, none⟩ v) := by
  obtain ⟨a1, a2, a3⟩ := h.pool.setRow (by rw [hT]; exact ht) hown hW hat
  rw [hT] at a2 a3
  rw [h.rb] at a1 a2
  have lB := blk_lt h.box
  refine ⟨h.p, h.nv, h.rb, a1, wrote_grew h.wrote a2 h.grew, h.grew.trans a3 h.wrote.size, ?_, h.new, fun x => ?_⟩
  · rw [a2.block B lB h.far]
    exact h.box
  · rcases a3 B x with y | y
    · exact h.far y
    · omega
/-- the owner turned: the end -/
theorem fin (h : GMid w q s s' B id q' wr) (hT : s'.T = s.T) (hn : s'.n = s.n) {k : Nat} (hk : k < s.n) (to : Int) (s'' : PS) (e : s'.setOwn (k + 1) to = s'') :
    PoolPost w q s'' (.int .i64 0) (.returned (.int .i64 0)) (wr.setCell ⟨q.nb, k * 2, none⟩ (.int .i64 to)) := by
  obtain ⟨a1, a2⟩ := h.pool.setOwn (k := k) (by rw [hn]; exact hk) to
  have hnb : q'.nb = q.nb := by unfold Pp.nb; rw [h.nv]
  rw [hnb] at a1 a2
  rw [e] at a1
  have hT' : s''.T = s.T := by rw [← e]; exact hT
  rw [hT] at a2
  refine ⟨rfl, q', h.p, a1, ?_, ?_⟩
  · rw [hT']
    exact wrote_grew h.wrote a2 h.grew
  · rw [hT']
    exact h.grew
end GMid

theorem gmid_start {w : World} {q : Pp} {s : PS} (h : PoolAt w q s) (id : Nat) : GMid w q s s w.heap.size id q (w.alloc (.cells #[.int .i64 (id : Int)] 3)) :=
  ⟨rfl, rfl, rfl, h.after ((Wrote.refl _ _).alloc _), (Wrote.refl _ _).alloc _, Grew.refl _ _, Go.Deep.blk_alloc_new _ _, Nat.le_refl _, fun x => by have := h.lt x; omega⟩

/-! ### what is no giving -/
theorem po_give_no {w : World} {q : Pp} {s : PS} (h : PoolAt w q s) (hI : PInv s) (id to : Int) (hg : ¬ ((1 ≤ id ∧ id ≤ s.n) ∧ (to = -1 ∨ (0 ≤ to ∧ to < s.T)))) :
    Calls Try.prog 14 #[.pointer (some ⟨q.p, 0, none⟩), .int .i64 id, .int .i64 to] w fun e w' => e = .returned (.int .i64 1) ∧ Wrote Nil w w' := by
  obtain ⟨X, hX⟩ : ∃ X, X = w.alloc (.cells #[.int .i64 id] 3) := ⟨_, rfl⟩
  have hW : Wrote Nil w X := by rw [hX]; exact (Wrote.refl _ _).alloc _
  have hP := h.after hW
  have hn := hI.n2
  have HX := Lib.hid (And.intro hX hW)
  by_cases hi : 1 ≤ id ∧ id ≤ s.n
  · have hto : to ≠ -1 ∧ ¬ (0 ≤ to ∧ to < s.T) := ⟨fun e => hg ⟨hi, .inl e⟩, fun e => hg ⟨hi, .inr e⟩⟩
    obtain ⟨k, rfl⟩ : ∃ k : Nat, id = (k : Int) + 1 := ⟨(id - 1).toNat, by omega⟩
    have c := po_node hP (by omega) k (by omega)
    have c2 := po_isThread hP to
    rw [decide_eq_false hto.2] at c2
    have h1 : ¬ to = -1 := hto.1
    rw [hX] at c c2
    clear h hW hP hX hg hto hi hI
    go_enter Try.func14, Try.ntmps14
    go_wp2_with (first
      | (go_at_call 24; with_reducible refine c.mono ?_; rintro e w' ⟨rfl, rfl⟩)
      | (go_at_call 25; with_reducible refine c2.mono ?_; rintro e w' ⟨rfl, rfl⟩))
    go_ret
    exact ⟨rfl, by rw [← HX.out.1]; exact HX.out.2⟩
  · have c := po_node_no hP (by omega) id (by omega)
    rw [hX] at c
    clear h hW hP hX hg hi hI
    go_enter Try.func14, Try.ntmps14
    go_wp2_with (go_at_call 24; with_reducible refine c.mono ?_; rintro e w' ⟨rfl, rfl⟩)
    go_ret
    exact ⟨rfl, by rw [← HX.out.1]; exact HX.out.2⟩

/-! ### a giving -/
theorem po_tail {P : Program} {id : Nat} {Q : Exit → Act → World → Prop} {a : Act} {w : World} {l : List Oper} (n : Nat) (hm : P.follows .mixedOrders = true) (hB : Region.lexTailB .any l.toArray n = true)
    (h : wpStill P l.toArray w.drew (fun a' => wpList P l.toArray Q (l.drop n) a' w.drew) (l.take n) a) : (Code.region id l.toArray true).wp P Q a w := wp_region_still_tail n hm hB h

/-- the row that a node leaves -/
def PS.leave (s : PS) (id : Nat) : PS := { s with row := fun t => without (s.row t) id }

theorem give_none (s : PS) (id : Nat) : (s.leave id).setOwn id (-1) = s.give id (-1) := by
  unfold PS.leave PS.setOwn PS.give
  simp only [PS.mk.injEq, true_and]
  funext t
  rw [if_neg (by omega), List.append_nil]
theorem give_some (s : PS) (id t : Nat) : ((s.leave id).setRow t (without (s.row t) id ++ [id])).setOwn id (t : Int) = s.give id (t : Int) := by
  unfold PS.leave PS.setOwn PS.setRow PS.give
  simp only [PS.mk.injEq, true_and]
  funext u
  by_cases e : u = t
  · subst e
    rw [upd_same, if_pos rfl]
  · rw [upd_other _ _ e, if_neg (by omega), List.append_nil]

set_option maxRecDepth 100000 in
set_option maxHeartbeats 2000000 in
theorem po_give_yes {w : World} {q : Pp} {s : PS} (h : PoolAt w q s) (hI : PInv s) (k : Nat) (hk : k < s.n) (to : Int) (hto : to = -1 ∨ (0 ≤ to ∧ to < s.T)) :
    Calls Try.prog 14 #[.pointer (some ⟨q.p, 0, none⟩), .int .i64 ((k : Int) + 1), .int .i64 to] w (PoolPost w q (s.give (k + 1) to) (.int .i64 0)) := by
  have hn := hI.n2
  have G0 := gmid_start h (k + 1)
  rw [Int.natCast_add, Int.natCast_one] at G0
  obtain ⟨X, hX⟩ : ∃ X, X = w.alloc (.cells #[.int .i64 ((k : Int) + 1)] 3) := ⟨_, rfl⟩
  rw [← hX] at G0
  have hP := G0.pool
  have b0 : X.cell? ⟨w.heap.size, 0, none⟩ = some (.int .i64 ((k : Int) + 1)) := by rw [blk_cell G0.box]; rfl
  have cn := po_node hP (by omega) k hk
  have ct := po_isThread hP to
  have n0 := hP.node0 hk
  obtain ⟨o, ho⟩ : ∃ o, o = s.own (k + 1) := ⟨_, rfl⟩
  rw [← ho] at n0
  -- where it stands in its row
  have cp : ∃ r : Int, Calls Try.prog 22 #[.pointer (some ⟨q.p, 0, none⟩), .int .i64 o, .func (.func 26) #[] #[.pointer (some ⟨w.heap.size, 0, none⟩)]] X (fun e w' => e = .returned (.int .i64 r) ∧ X = w') ∧
      (r = -1 ∧ (∀ t, t < s.T → (k + 1) ∉ s.row t) ∨ ∃ (t i : Nat), t < s.T ∧ o = (t : Int) ∧ r = (i : Int) ∧ (s.row t)[i]? = some (k + 1) ∧ ∀ u, u < s.T → u ≠ t → (k + 1) ∉ s.row u) := by
    rcases hI.all (k + 1) (by omega) (by omega) with e | ⟨t, ht, e, hm⟩
    · refine ⟨-1, ?_, .inl ⟨rfl, fun t ht hm => ?_⟩⟩
      · exact po_place_no hP o (by rw [ho, e]; omega) _
      · have := (hI.mem t _ ht hm).2.2
        omega
    · obtain ⟨i, hi, hx⟩ := idx_mem hm
      have hl := hI.len ht
      have c := po_place hP t ht (by omega) (fun x : Nat => decide ((x : Int) = ((k + 1 : Nat) : Int))) 26 #[.pointer (some ⟨w.heap.size, 0, none⟩)] eg_give1 fun x _ => by
        have := po_give1 b0 x
        rw [Int.natCast_add, Int.natCast_one]
        exact this
      rw [hx] at c
      rw [ho, e]
      refine ⟨i, c, .inr ⟨t, i, ht, rfl, rfl, hi, fun u hu hut hm' => ?_⟩⟩
      have := (hI.mem u _ hu hm').2.2
      omega
  obtain ⟨r, cp, hr⟩ := cp
  have HR := Lib.hid hr
  have HG := Lib.hid G0
  have HX := Lib.hid hX
  have HI := Lib.hid (And.intro hI (And.intro h ho))
  clear hr G0 h hI ho hX
  have HP := Lib.hid hP
  clear hP
  go_enter Try.func14, Try.ntmps14
  go_wp2_with fail
  rw [← HX.out]
  go_upto_region 2 with (first
    | (go_at_call 24; with_reducible refine cn.mono ?_; rintro e w' ⟨rfl, rfl⟩))
  go_cut [23] from 8 (fun v23 wx => v23 = .bool false ∧ X = wx)
  case first =>
    rcases hto with rfl | ht
    · clear ct cp cn
      go_wp2
      go_meet
      exact ⟨rfl, rfl⟩
    · have ht1 : ¬ to = -1 := by omega
      rw [decide_eq_true ht] at ct
      clear cp cn
      go_wp2_with (go_at_call 25; with_reducible refine ct.mono ?_; rintro e w' ⟨rfl, rfl⟩)
      go_meet
      exact ⟨rfl, rfl⟩
  case rest =>
    obtain ⟨rfl, rfl⟩ := hcut
    clear ct cn
    go_upto_if 32 with (first
      | (go_at_call 22; with_reducible refine cp.mono ?_; rintro e w' ⟨rfl, rfl⟩))
    clear cp
    go_cut [] from 8 (fun wx => ∃ q', GMid w q s (s.leave (k + 1)) w.heap.size (k + 1) q' wx)
    case first =>
      rcases HR.out with ⟨rfl, hm⟩ | ⟨t, i, ht, rfl, rfl, hi, hm⟩
      · have HM := Lib.hid hm
        clear hm
        go_wp2
        go_meet
        exact ⟨q, HG.out.congr rfl rfl (fun _ _ _ => ⟨rfl, rfl⟩) (fun t ht => without_not (HM.out t ht))⟩
      · have c1 := HP.out.cell1
        have c3 := HP.out.rowCell ht
        have f3 := HP.out.rows.frozen t
        obtain ⟨so, cap, hv, _⟩ := HP.out.rowV ht
        have hrow := (HP.out.after (Wrote.refl Nil X).drew).row t ht
        have hil : i < (s.row t).length := (List.getElem?_eq_some_iff.1 hi).1
        have cc := po_cut hrow i hil
        rw [hv] at c3 cc
        have hL := HI.out.1.len ht
        have ht' : (t : Int) < (s.T : Int) := by omega
        have hi' : (i : Int) < 512 := by omega
        have hwr : (i : Int) + 1 = IntKind.i64.wrap ((i : Int) + 1) := by rw [IntKind.wrap_i64]; omega
        rw [hwr] at cc
        have KF : ∀ w1, Wrote (fun b => (Value.slice so (s.row t).length cap).ownBlock = some b) X.drew w1 → w1.cell? ⟨q.p, 1, none⟩ = some (.slice (some ⟨q.rb, 0, none⟩) s.T s.T) ∧ w1.cell? ⟨q.nb, k * 2, none⟩ = some (.int .i64 (t : Int)) ∧ w1.cell? ⟨q.rb, t, none⟩ = some (.slice so (s.row t).length cap) ∧ w1.frozen? ⟨q.rb, t, none⟩ = false := fun w1 hW1 => by
          have far := fun b (e : (Value.slice so (s.row t).length cap).ownBlock = some b) => HP.out.far t ht b (by rw [hv]; exact e)
          have hnB := HP.out.nodeB (show 0 < s.n by omega)
          refine ⟨hW1.cell (w := X.drew) c1 fun e => (far _ e).1 rfl, hW1.cell (w := X.drew) n0 fun e => (far _ e).2.2 hnB, hW1.cell (w := X.drew) c3 fun e => (far _ e).2.1 rfl, ?_⟩
          rw [World.frozen?_of_block (w := X.drew) (hW1.block q.rb (HP.out.rows.lt) fun e => (far _ e).2.1 rfl)]
          exact f3
        have KE : ∀ v' w1, w1.ownsRow 0 3 1 v' ((s.row t).eraseIdx i).length (((s.row t).eraseIdx i).map idv) → v'.ownBlock = (Value.slice so (s.row t).length cap).ownBlock → Wrote (fun b => (Value.slice so (s.row t).length cap).ownBlock = some b) X.drew w1 → ∃ q', GMid w q s (s.leave (k + 1)) w.heap.size (k + 1) q' (w1.setCell ⟨q.rb, t, none⟩ v') := fun v' w1 g1 g2 g3 => by
          have G1 := (HG.out.after (Wrote.refl Nil X).drew).setRow rfl ht g1 (by rw [hv]; exact g3) (fun b hb => .inl (by rw [hv, ← g2]; exact hb))
          refine ⟨_, G1.congr rfl rfl (fun _ _ _ => ⟨rfl, rfl⟩) fun u hu => ?_⟩
          show without (s.row u) (k + 1) = upd s.row t _ u
          by_cases e : u = t
          · subst e
            rw [upd_same, without_erase (HI.out.1.nodup u hu) hi]
          · rw [upd_other _ _ e]
            exact without_not (hm u hu e)
        have HN := Lib.hid (show (⟨q.rb, t, none⟩ : Addr) ≠ ⟨q.p, 1, none⟩ ∧ (⟨q.rb, t, none⟩ : Addr) ≠ ⟨q.nb, k * 2, none⟩ from ⟨fun e => HP.out.low.1 (by simp only [Addr.mk.injEq] at e; exact e.1.symm), fun e => HP.out.low.2.2 (by simp only [Addr.mk.injEq] at e; rw [e.1]; exact HP.out.nodeB (by omega))⟩)
        have HK := Lib.hid (And.intro KF KE)
        clear hm hi hrow hv KF KE HR hwr
        go_upto_region 6 with fail
        refine wp_region_held_drew (S := fun w' => w'.cell? ⟨q.p, 1, none⟩ = some (.slice (some ⟨q.rb, 0, none⟩) s.T s.T) ∧ w'.cell? ⟨q.nb, k * 2, none⟩ = some (.int .i64 (t : Int))) (by kernel_rfl) ⟨c1, n0⟩ (fun hHeld => ?_)
        refine wpAnyH_take (i := 0) (v := ?v1) rfl (by kernel_rfl) (by kernel_rfl) (by kernel_rfl) (fun _ _ _ h => h) (Or.inl ⟨by rfl, ?hy1⟩) (by assumption) ?rest1
        case hy1 => intro w hSw; (try dsimp only at hSw); go_simp; try with_reducible rfl
        (try simp only [Act.put, List.setIfInBounds_toArray])
        refine wpAnyH_take (i := 1) (v := ?v2) rfl (by kernel_rfl) (by kernel_rfl) (by kernel_rfl) (fun _ _ _ h => h) (Or.inl ⟨by rfl, ?hy2⟩) (by assumption) ?rest2
        case hy2 => intro w hSw; (try dsimp only at hSw); go_simp; try with_reducible rfl
        (try simp only [Act.put])
        refine wpAnyH_take (i := 2) (v := ?v3) rfl (by kernel_rfl) (by kernel_rfl) (by kernel_rfl) (fun _ _ _ h => h) (Or.inl ⟨by rfl, ?hy3⟩) (by assumption) ?rest3
        case hy3 => intro w hSw; (try dsimp only at hSw); go_simp; try with_reducible rfl
        (try simp only [Act.put])
        refine wpAnyH_take (i := 3) (v := ?v4) rfl (by kernel_rfl) (by kernel_rfl) (by kernel_rfl) (fun _ _ _ h => h) (Or.inl ⟨by rfl, ?hy4⟩) (by assumption) ?rest4
        case hy4 => intro w hSw; (try dsimp only at hSw); go_simp; try with_reducible rfl
        (try simp only [Act.put])
        refine wpAnyH_take (i := 4) (v := ?v5) rfl (by kernel_rfl) (by kernel_rfl) (by kernel_rfl) (fun _ _ _ h => h) (Or.inl ⟨by rfl, ?hy5⟩) (by assumption) ?rest5
        case hy5 => intro w hSw; (try dsimp only at hSw); go_simp; try with_reducible rfl
        (try simp only [Act.put])
        refine wpAnyH_take (i := 5) (v := ?v6) rfl (by kernel_rfl) (by kernel_rfl) (by kernel_rfl) (fun _ _ _ h => h) (Or.inl ⟨by rfl, ?hy6⟩) (by assumption) ?rest6
        case hy6 => intro w hSw; (try dsimp only at hSw); go_simp; try with_reducible rfl
        (try simp only [Act.put])
        refine wpAnyH_take (i := 6) (v := ?v7) rfl (by kernel_rfl) (by kernel_rfl) (by kernel_rfl) (fun _ _ _ h => h) (Or.inl ⟨by rfl, ?hy7⟩) (by assumption) ?rest7
        case hy7 => intro w hSw; (try dsimp only at hSw); go_simp; try with_reducible rfl
        (try simp only [Act.put])
        refine wpAnyH_take (i := 7) (v := ?v8) rfl (by kernel_rfl) (by kernel_rfl) (by kernel_rfl) (fun _ _ _ h => h) (Or.inl ⟨by rfl, ?hy8⟩) (by assumption) ?rest8
        case hy8 => intro w hSw; (try dsimp only at hSw); go_simp; try with_reducible rfl
        (try simp only [Act.put])
        refine wpAnyH_take (i := 8) (v := ?v9) rfl (by kernel_rfl) (by kernel_rfl) (by kernel_rfl) (fun _ _ _ h => h) (Or.inl ⟨by rfl, ?hy9⟩) (by assumption) ?rest9
        case hy9 => intro w hSw; (try dsimp only at hSw); go_simp; try with_reducible rfl
        (try simp only [Act.put])
        refine wpAnyH_take (i := 9) (v := ?v10) rfl (by kernel_rfl) (by kernel_rfl) (by kernel_rfl) (fun _ _ _ h => h) (Or.inl ⟨by rfl, ?hy10⟩) (by assumption) ?rest10
        case hy10 => intro w hSw; (try dsimp only at hSw); go_simp; try with_reducible rfl
        (try simp only [Act.put])
        refine wpAnyH_take (i := 10) (v := ?v11) rfl (by kernel_rfl) (by kernel_rfl) (by kernel_rfl) (fun _ _ _ h => h) (Or.inl ⟨by rfl, ?hy11⟩) (by assumption) ?rest11
        case hy11 => intro w hSw; (try dsimp only at hSw); go_simp; try with_reducible rfl
        (try simp only [Act.put])
        refine wpAnyH_take (i := 11) (v := ?v12) rfl (by kernel_rfl) (by kernel_rfl) (by kernel_rfl) (fun _ _ _ h => h) (Or.inl ⟨by rfl, ?hy12⟩) (by assumption) ?rest12
        case hy12 => intro w hSw; (try dsimp only at hSw); go_simp; try with_reducible rfl
        (try simp only [Act.put])
        refine wpAnyH_take (i := 12) (v := ?v13) rfl (by kernel_rfl) (by kernel_rfl) (by kernel_rfl) (fun _ _ _ h => h) (Or.inl ⟨by rfl, ?hy13⟩) (by assumption) ?rest13
        case hy13 => intro w hSw; (try dsimp only at hSw); go_simp; try with_reducible rfl
        (try simp only [Act.put])
        refine wpAnyH_take (i := 13) (v := ?v14) rfl (by kernel_rfl) (by kernel_rfl) (by kernel_rfl) (fun _ _ _ h => h) (Or.inl ⟨by rfl, ?hy14⟩) (by assumption) ?rest14
        case hy14 => intro w hSw; (try dsimp only at hSw); go_simp; try with_reducible rfl
        (try simp only [Act.put])
        refine wpAnyH_take (i := 14) (v := ?v15) rfl (by kernel_rfl) (by kernel_rfl) (by kernel_rfl) (fun _ _ _ h => h) (Or.inl ⟨by rfl, ?hy15⟩) (by assumption) ?rest15
        case hy15 => intro w hSw; (try dsimp only at hSw); go_simp; try with_reducible rfl
        (try simp only [Act.put])
        refine wpAnyH_take (i := 15) (v := ?v16) rfl (by kernel_rfl) (by kernel_rfl) (by kernel_rfl) (fun _ _ _ h => h) (Or.inl ⟨by rfl, ?hy16⟩) (by assumption) ?rest16
        case hy16 => intro w hSw; (try dsimp only at hSw); go_simp; try with_reducible rfl
        (try simp only [Act.put])
        refine wpAnyH_take (i := 16) (v := ?v17) rfl (by kernel_rfl) (by kernel_rfl) (by kernel_rfl) (fun _ _ _ h => h) (Or.inl ⟨by rfl, ?hy17⟩) (by assumption) ?rest17
        case hy17 => intro w hSw; (try dsimp only at hSw); go_simp; try with_reducible rfl
        (try simp only [Act.put])
        refine wpAnyH_take (i := 18) (v := ?v18) rfl (by kernel_rfl) (by kernel_rfl) (by kernel_rfl) (fun _ _ _ h => h) (Or.inl ⟨by rfl, ?hy18⟩) (by assumption) ?rest18
        case hy18 => intro w hSw; (try dsimp only at hSw); go_simp; try with_reducible rfl
        (try simp only [Act.put])
        refine wpAnyH_take (i := 19) (v := ?v19) rfl (by kernel_rfl) (by kernel_rfl) (by kernel_rfl) (fun _ _ _ h => h) (Or.inl ⟨by rfl, ?hy19⟩) (by assumption) ?rest19
        case hy19 => intro w hSw; (try dsimp only at hSw); go_simp; try with_reducible rfl
        (try simp only [Act.put])
        refine wpAnyH_take (i := 20) (v := ?v20) rfl (by kernel_rfl) (by kernel_rfl) (by kernel_rfl) (fun _ _ _ h => h) (Or.inl ⟨by rfl, ?hy20⟩) (by assumption) ?rest20
        case hy20 => intro w hSw; (try dsimp only at hSw); go_simp; try with_reducible rfl
        (try simp only [Act.put])
        refine wpAnyH_ready (rs := [17]) (by kernel_rfl) (by simp) ?_
        refine AllReadyH.cons rfl (fun K hK => ?_) AllReadyH.nil
        go_simp
        refine hK.out _ _ ⟨c1, n0⟩ (fun hHeld2 => ?_)
        clear hHeld K hK
        have hHeld := hHeld2
        clear hHeld2
        (try simp only [Act.put, List.setIfInBounds_toArray, List.set_cons_zero, List.set_cons_succ])
        refine wpAnyH_ready (rs := [21]) (by kernel_rfl) (by simp) ?_
        refine AllReadyH.cons rfl (fun K hK => ?_) AllReadyH.nil
        go_simp
        with_reducible refine cc.mono ?_
        intro e w1 hc
        unfold CutPost at hc
        obtain ⟨v', rfl, g1, g2, g3⟩ := hc
        obtain ⟨d1, d2, d3, d4⟩ := HK.out.1 w1 g3
        have HE := Lib.hid (HK.out.2 _ _ g1 g2 g3)
        obtain ⟨so', cap', rfl, _⟩ := own_slice g1
        clear g1 g2 g3
        go_simp
        refine hK.out _ _ ⟨d1, d2⟩ (fun hHeld2 => ?_)
        clear hHeld K hK
        have hHeld := hHeld2
        clear hHeld2
        (try simp only [Act.put, List.setIfInBounds_toArray, List.set_cons_zero, List.set_cons_succ])
        refine wpAnyH_take (i := 22) (v := ?v21) rfl (by kernel_rfl) (by kernel_rfl) (by kernel_rfl) (fun _ _ _ h => h) (Or.inl ⟨by rfl, ?hy21⟩) (by assumption) ?rest21
        case hy21 => intro w hSw; (try dsimp only at hSw); go_simp; try with_reducible rfl
        (try simp only [Act.put, List.setIfInBounds_toArray])
        refine wpAnyH_ready (rs := [23]) (by kernel_rfl) (by simp) ?_
        refine AllReadyH.cons rfl (fun K hK => ?_) AllReadyH.nil
        go_simp
        refine hK.out _ _ ⟨(World.cell?_setCell_other w1 _ _ _ HN.out.1).trans d1, (World.cell?_setCell_other w1 _ _ _ HN.out.2).trans d2⟩ (fun hHeld2 => ?_)
        clear hHeld K hK
        have hHeld := hHeld2
        clear hHeld2
        (try simp only [Act.put, List.setIfInBounds_toArray, List.set_cons_zero, List.set_cons_succ])
        refine wpAnyH_done (by kernel_rfl) ?_ _
        go_wp2
        go_meet
        exact HE.out
    case rest =>
      clear HR HP HG HX b0 n0
      obtain ⟨q1, hG⟩ := hcut
      have hnb : q1.nb = q.nb := by unfold Pp.nb; rw [hG.nv]
      rcases hto with rfl | ⟨t0, t1⟩
      · have x0 := hG.pool.node0 (show k < s.n from hk)
        have xf := hG.pool.nodeF (show 0 < s.n by omega) (k * 2)
        rw [hnb] at x0 xf
        have HG := Lib.hid hG
        clear hG hnb
        go_wp2
        go_ret
        exact HG.out.fin rfl rfl hk (-1) _ (give_none s (k + 1))
      · obtain ⟨t, rfl⟩ := Int.eq_ofNat_of_zero_le t0
        have ht : t < s.T := by omega
        have ht1 : ¬ (t : Int) = -1 := by omega
        have c1 := hG.pool.cell1
        rw [hG.p, hG.rb] at c1
        have c3 := hG.pool.rowCell (show t < s.T from ht)
        rw [hG.rb] at c3
        have f3 := hG.pool.rows.frozen t
        rw [hG.rb] at f3
        have b1 : wc.cell? ⟨w.heap.size, 0, none⟩ = some (.int .i64 ((k : Int) + 1)) := by rw [blk_cell hG.box]; rfl
        obtain ⟨so, cap, hv, _⟩ := hG.pool.rowV (show t < s.T from ht)
        have hrow := hG.pool.row t ht
        rw [hv] at c3 hrow
        obtain ⟨L, hL⟩ : ∃ L, L = (s.leave (k + 1)).row t := ⟨_, rfl⟩
        rw [← hL] at c3 hrow hv
        obtain ⟨n, hn'⟩ : ∃ n, n = L.length := ⟨_, rfl⟩
        rw [← hn'] at c3 hrow hv
        have hnl : n ≤ 512 := by
          have h1 := HI.out.1.len ht
          have h2 : L.length ≤ (s.row t).length := by rw [hL]; exact List.length_filter_le _ _
          omega
        obtain ⟨i0, hi, hz0, hz1, hz2⟩ := info_parts pinfo_int
        have hA : Wrote Nil wc (wc.alloc (.cells #[.int .i64 ((k : Int) + 1)] 3)).drew := ((Wrote.refl Nil wc).alloc _).drew
        have hGA := hG.after hA
        have e1 := hA.old c1
        have e2 := hA.old b1
        have e3 := hA.old c3
        have hown : (wc.alloc (.cells #[.int .i64 ((k : Int) + 1)] 3)).drew.ownsRow 0 3 1 (.slice so n cap) n (L.map idv) := by
          have := hGA.pool.row t ht
          rw [hv, ← hL, ← hn'] at this
          exact this
        have hnews : ∀ (j : Nat) (u : Value), [Value.int .i64 ((k : Int) + 1)][j]? = some u → (wc.alloc (.cells #[.int .i64 ((k : Int) + 1)] 3)).drew.cell? ((⟨wc.heap.size, 0, none⟩ : Addr).add j) = some u := fun j u hu => cell_one_new wc _ _ j u hu
        have hml : n + 1 ≤ maxLen := by unfold maxLen; omega
        have ht' : (t : Int) < (s.T : Int) := by omega
        have hfar : ∀ b, (Value.slice so n cap).ownBlock = some b → b ≠ q.p ∧ b ≠ q.rb ∧ b ≠ w.heap.size := fun b hb => by
          have := hG.pool.far t ht b (by rw [hv]; exact hb)
          rw [hG.p, hG.rb] at this
          exact ⟨this.1, this.2.1, fun e => hG.far (.inr (.inr (.inr ⟨t, ht, by rw [hv, hb, e]⟩)))⟩
        have lp := blk_lt hGA.pool.obj
        rw [hG.p] at lp
        have lr := hGA.pool.rows.lt
        rw [hG.rb] at lr
        have lb := blk_lt hGA.box
        have KF : ∀ g cp w5, w5.ownsRow 0 3 1 (.slice (some ⟨g, 0, none⟩) (n + 1) cp) (n + 1) (L.map idv ++ [.int .i64 ((k : Int) + 1)]) → (wc.alloc (.cells #[.int .i64 ((k : Int) + 1)] 3)).drew.grownBy w5 (Value.slice so n cap).ownBlock →
            ((Value.slice so n cap).ownBlock = some g ∨ g = (wc.alloc (.cells #[.int .i64 ((k : Int) + 1)] 3)).drew.heap.size) →
            w5.cell? ⟨q.p, 1, none⟩ = some (.slice (some ⟨q.rb, 0, none⟩) s.T s.T) ∧ w5.cell? ⟨w.heap.size, 0, none⟩ = some (.int .i64 ((k : Int) + 1)) ∧ w5.cell? ⟨q.rb, t, none⟩ = some (.slice so n cap) ∧ w5.frozen? ⟨q.rb, t, none⟩ = false := fun g cp w5 g1 g2 g3 => by
          refine ⟨g2.cell e1 fun e => (hfar _ e.symm).1 rfl, g2.cell e2 fun e => (hfar _ e.symm).2.2 rfl, g2.cell e3 fun e => (hfar _ e.symm).2.1 rfl, ?_⟩
          rw [World.frozen?_of_block (w := (wc.alloc (.cells #[.int .i64 ((k : Int) + 1)] 3)).drew) (g2.block q.rb lr fun e => (hfar _ e.symm).2.1 rfl)]
          have := hGA.pool.rows.frozen t
          rw [hG.rb] at this
          exact this
        have KE : ∀ g cp w5, w5.ownsRow 0 3 1 (.slice (some ⟨g, 0, none⟩) (n + 1) cp) (n + 1) (L.map idv ++ [.int .i64 ((k : Int) + 1)]) → (wc.alloc (.cells #[.int .i64 ((k : Int) + 1)] 3)).drew.grownBy w5 (Value.slice so n cap).ownBlock →
            ((Value.slice so n cap).ownBlock = some g ∨ g = (wc.alloc (.cells #[.int .i64 ((k : Int) + 1)] 3)).drew.heap.size) →
            ∃ q2, GMid w q s ((s.leave (k + 1)).setRow t (L ++ [k + 1])) w.heap.size (k + 1) q2 (w5.setCell ⟨q.rb, t, none⟩ (.slice (some ⟨g, 0, none⟩) (n + 1) cp)) := fun g cp w5 g1 g2 g3 => by
          have hl : (L ++ [k + 1]).length = n + 1 := by simp [hn']
          have hm : (L ++ [k + 1]).map idv = L.map idv ++ [.int .i64 ((k : Int) + 1)] := by simp [idv]
          refine ⟨_, hGA.setRow rfl ht (by rw [hl, hm]; exact g1) (by rw [hv]; exact (Wrote.refl _ _).grown g2 fun b hb _ => hb) fun b hb => ?_⟩
          have hb' : g = b := by simpa [Value.ownBlock] using hb
          subst hb'
          rw [hv]
          rcases g3 with x | x
          · exact .inl x
          · exact .inr (by omega)
        have HN := Lib.hid (show (⟨q.rb, t, none⟩ : Addr) ≠ ⟨q.p, 1, none⟩ ∧ (⟨q.rb, t, none⟩ : Addr) ≠ ⟨w.heap.size, 0, none⟩ from ⟨fun e => by simp only [Addr.mk.injEq] at e; have := hG.pool.low.1; rw [hG.p, hG.rb] at this; exact this e.1.symm, fun e => by simp only [Addr.mk.injEq] at e; exact hG.far (.inr (.inl (by rw [hG.rb]; exact e.1.symm)))⟩)
        have HK := Lib.hid (And.intro KF KE)
        have HO := Lib.hid (And.intro hown hnews)
        have HLn := Lib.hid (And.intro hL hn')
        have E12 := Lib.hid (And.intro e1 e2)
        have E3 := Lib.hid (show (wc.alloc (.cells #[.int .i64 ((k : Int) + 1)] 3)).cell? ⟨q.rb, t, none⟩ = some (.slice so n cap) from e3)
        clear hG hnb hrow hv KF KE hown hnews hGA hfar lp lr lb hA hL hn' e1 e2 e3
        go_upto_region 8 with fail
        refine wp_region_held_drew (S := fun w' => w'.cell? ⟨q.p, 1, none⟩ = some (.slice (some ⟨q.rb, 0, none⟩) s.T s.T) ∧ w'.cell? ⟨w.heap.size, 0, none⟩ = some (.int .i64 ((k : Int) + 1))) (by kernel_rfl) ⟨c1, b1⟩ (fun hHeld => ?_)
        refine wpAnyH_take (i := 0) (v := ?v22) rfl (by kernel_rfl) (by kernel_rfl) (by kernel_rfl) (fun _ _ _ h => h) (Or.inl ⟨by rfl, ?hy22⟩) (by assumption) ?rest22
        case hy22 => intro w hSw; (try dsimp only at hSw); go_simp; try with_reducible rfl
        (try simp only [Act.put, List.setIfInBounds_toArray])
        refine wpAnyH_take (i := 1) (v := ?v23) rfl (by kernel_rfl) (by kernel_rfl) (by kernel_rfl) (fun _ _ _ h => h) (Or.inl ⟨by rfl, ?hy23⟩) (by assumption) ?rest23
        case hy23 => intro w hSw; (try dsimp only at hSw); go_simp; try with_reducible rfl
        (try simp only [Act.put])
        refine wpAnyH_take (i := 2) (v := ?v24) rfl (by kernel_rfl) (by kernel_rfl) (by kernel_rfl) (fun _ _ _ h => h) (Or.inl ⟨by rfl, ?hy24⟩) (by assumption) ?rest24
        case hy24 => intro w hSw; (try dsimp only at hSw); go_simp; try with_reducible rfl
        (try simp only [Act.put])
        refine wpAnyH_take (i := 3) (v := ?v25) rfl (by kernel_rfl) (by kernel_rfl) (by kernel_rfl) (fun _ _ _ h => h) (Or.inl ⟨by rfl, ?hy25⟩) (by assumption) ?rest25
        case hy25 => intro w hSw; (try dsimp only at hSw); go_simp; try with_reducible rfl
        (try simp only [Act.put])
        refine wpAnyH_take (i := 4) (v := ?v26) rfl (by kernel_rfl) (by kernel_rfl) (by kernel_rfl) (fun _ _ _ h => h) (Or.inl ⟨by rfl, ?hy26⟩) (by assumption) ?rest26
        case hy26 => intro w hSw; (try dsimp only at hSw); go_simp; try with_reducible rfl
        (try simp only [Act.put])
        refine wpAnyH_take (i := 5) (v := ?v27) rfl (by kernel_rfl) (by kernel_rfl) (by kernel_rfl) (fun _ _ _ h => h) (Or.inl ⟨by rfl, ?hy27⟩) (by assumption) ?rest27
        case hy27 => intro w hSw; (try dsimp only at hSw); go_simp; try with_reducible rfl
        (try simp only [Act.put])
        refine wpAnyH_take (i := 6) (v := ?v28) rfl (by kernel_rfl) (by kernel_rfl) (by kernel_rfl) (fun _ _ _ h => h) (Or.inl ⟨by rfl, ?hy28⟩) (by assumption) ?rest28
        case hy28 => intro w hSw; (try dsimp only at hSw); go_simp; try with_reducible rfl
        (try simp only [Act.put])
        refine wpAnyH_take (i := 7) (v := ?v29) rfl (by kernel_rfl) (by kernel_rfl) (by kernel_rfl) (fun _ _ _ h => h) (Or.inl ⟨by rfl, ?hy29⟩) (by assumption) ?rest29
        case hy29 => intro w hSw; (try dsimp only at hSw); go_simp; try with_reducible rfl
        (try simp only [Act.put])
        refine wpAnyH_take (i := 8) (v := ?v30) rfl (by kernel_rfl) (by kernel_rfl) (by kernel_rfl) (fun _ _ _ h => h) (Or.inl ⟨by rfl, ?hy30⟩) (by assumption) ?rest30
        case hy30 => intro w hSw; (try dsimp only at hSw); go_simp; try with_reducible rfl
        (try simp only [Act.put])
        refine wpAnyH_take (i := 9) (v := ?v31) rfl (by kernel_rfl) (by kernel_rfl) (by kernel_rfl) (fun _ _ _ h => h) (Or.inl ⟨by rfl, ?hy31⟩) (by assumption) ?rest31
        case hy31 => intro w hSw; (try dsimp only at hSw); go_simp; try with_reducible rfl
        (try simp only [Act.put])
        refine wpAnyH_take (i := 10) (v := ?v32) rfl (by kernel_rfl) (by kernel_rfl) (by kernel_rfl) (fun _ _ _ h => h) (Or.inl ⟨by rfl, ?hy32⟩) (by assumption) ?rest32
        case hy32 => intro w hSw; (try dsimp only at hSw); go_simp; try with_reducible rfl
        (try simp only [Act.put])
        refine wpAnyH_take (i := 12) (v := ?v33) rfl (by kernel_rfl) (by kernel_rfl) (by kernel_rfl) (fun _ _ _ h => h) (Or.inl ⟨by rfl, ?hy33⟩) (by assumption) ?rest33
        case hy33 => intro w hSw; (try dsimp only at hSw); go_simp; try with_reducible rfl
        (try simp only [Act.put])
        refine wpAnyH_ready (rs := [11, 13]) (by kernel_rfl) (by simp) ?_
        refine AllReadyH.cons rfl (fun K hK => ?_) (AllReadyH.cons rfl (fun K hK => ?_) AllReadyH.nil)
        · skip
          go_simp
          refine hK.out _ _ ⟨c1, b1⟩ (fun hHeld2 => ?_)
          clear hHeld K hK
          have hHeld := hHeld2
          clear hHeld2
          (try simp only [Act.put, List.setIfInBounds_toArray, List.set_cons_zero, List.set_cons_succ])
          refine wpAnyH_ready (rs := [13]) (by kernel_rfl) (by simp) ?_
          refine AllReadyH.cons rfl (fun K hK => ?_) AllReadyH.nil
          go_simp
          refine hK.out _ _ E12.out (fun hHeld2 => ?_)
          clear hHeld K hK
          have hHeld := hHeld2
          clear hHeld2
          (try simp only [Act.put, List.setIfInBounds_toArray, List.set_cons_zero, List.set_cons_succ])
          refine wpAnyH_ready (rs := [14]) (by kernel_rfl) (by simp) ?_
          refine AllReadyH.cons rfl (fun K hK => ?_) AllReadyH.nil
          refine step_append_lies _ (by rfl) _ _ 44 (by rfl) 0 3 i0 (.int .i64 0) 1 8 Try.underlying44 hi hz0 hz1 hz2 rfl (by decide) (.slice so n cap) n (L.map idv) (by simp [Act.eval]) HO.out.1 ⟨wc.heap.size, 0, none⟩ 1 1 [.int .i64 ((k : Int) + 1)] (by simp [Act.eval]) rfl HO.out.2 (by simp [Value.oneCell']) (by decide) hml (by omega) (Nat.zero_le _) _ rfl ?_
          intro g cp w5 g1 g2 g3 g4
          obtain ⟨d1, d2, d3, d4⟩ := HK.out.1 g cp w5 g1 g2 g3
          have HE := Lib.hid (HK.out.2 g cp w5 g1 g2 g3)
          clear g1 g2 g3 g4
          refine hK.out _ _ ⟨d1, d2⟩ (fun hHeld2 => ?_)
          clear hHeld K hK
          have hHeld := hHeld2
          clear hHeld2
          (try simp only [Act.put, List.setIfInBounds_toArray])
          refine wpAnyH_take (i := 15) (v := ?v34) rfl (by kernel_rfl) (by kernel_rfl) (by kernel_rfl) (fun _ _ _ h => h) (Or.inl ⟨by rfl, ?hy34⟩) (by assumption) ?rest34
          case hy34 => intro w hSw; (try dsimp only at hSw); go_simp; try with_reducible rfl
          (try simp only [Act.put])
          refine wpAnyH_ready (rs := [16]) (by kernel_rfl) (by simp) ?_
          refine AllReadyH.cons rfl (fun K hK => ?_) AllReadyH.nil
          go_simp
          refine hK.out _ _ ⟨(World.cell?_setCell_other w5 _ _ _ HN.out.1).trans d1, (World.cell?_setCell_other w5 _ _ _ HN.out.2).trans d2⟩ (fun hHeld2 => ?_)
          clear hHeld K hK
          have hHeld := hHeld2
          clear hHeld2
          (try simp only [Act.put, List.setIfInBounds_toArray, List.set_cons_zero, List.set_cons_succ])
          refine wpAnyH_done (by kernel_rfl) ?_ _
          obtain ⟨q2, hG2⟩ := HE.out
          have x0 := hG2.pool.node0 (show k < s.n from hk)
          have xf := hG2.pool.nodeF (show 0 < s.n by omega) (k * 2)
          rw [show q2.nb = q.nb from by unfold Pp.nb; rw [hG2.nv]] at x0 xf
          have HG2 := Lib.hid hG2
          clear hG2 d1 d2 d3 d4 hHeld
          generalize w5.setCell ⟨q.rb, t, none⟩ (.slice (some ⟨g, 0, none⟩) (n + 1) cp) = W6 at x0 xf HG2 ⊢
          go_wp2
          go_ret
          exact HG2.out.fin rfl rfl hk _ _ (by rw [HLn.out.1]; exact give_some s (k + 1) t)
        · skip
          go_simp
          refine hK.out _ _ E12.out (fun hHeld2 => ?_)
          clear hHeld K hK
          have hHeld := hHeld2
          clear hHeld2
          (try simp only [Act.put, List.setIfInBounds_toArray, List.set_cons_zero, List.set_cons_succ])
          have e3 := E3.out
          refine wpAnyH_ready (rs := [11]) (by kernel_rfl) (by simp) ?_
          refine AllReadyH.cons rfl (fun K hK => ?_) AllReadyH.nil
          go_simp
          refine hK.out _ _ E12.out (fun hHeld2 => ?_)
          clear hHeld K hK
          have hHeld := hHeld2
          clear hHeld2
          (try simp only [Act.put, List.setIfInBounds_toArray, List.set_cons_zero, List.set_cons_succ])
          refine wpAnyH_ready (rs := [14]) (by kernel_rfl) (by simp) ?_
          refine AllReadyH.cons rfl (fun K hK => ?_) AllReadyH.nil
          refine step_append_lies _ (by rfl) _ _ 44 (by rfl) 0 3 i0 (.int .i64 0) 1 8 Try.underlying44 hi hz0 hz1 hz2 rfl (by decide) (.slice so n cap) n (L.map idv) (by simp [Act.eval]) HO.out.1 ⟨wc.heap.size, 0, none⟩ 1 1 [.int .i64 ((k : Int) + 1)] (by simp [Act.eval]) rfl HO.out.2 (by simp [Value.oneCell']) (by decide) hml (by omega) (Nat.zero_le _) _ rfl ?_
          intro g cp w5 g1 g2 g3 g4
          obtain ⟨d1, d2, d3, d4⟩ := HK.out.1 g cp w5 g1 g2 g3
          have HE := Lib.hid (HK.out.2 g cp w5 g1 g2 g3)
          clear g1 g2 g3 g4
          refine hK.out _ _ ⟨d1, d2⟩ (fun hHeld2 => ?_)
          clear hHeld K hK
          have hHeld := hHeld2
          clear hHeld2
          (try simp only [Act.put, List.setIfInBounds_toArray])
          refine wpAnyH_take (i := 15) (v := ?v35) rfl (by kernel_rfl) (by kernel_rfl) (by kernel_rfl) (fun _ _ _ h => h) (Or.inl ⟨by rfl, ?hy35⟩) (by assumption) ?rest35
          case hy35 => intro w hSw; (try dsimp only at hSw); go_simp; try with_reducible rfl
          (try simp only [Act.put])
          refine wpAnyH_ready (rs := [16]) (by kernel_rfl) (by simp) ?_
          refine AllReadyH.cons rfl (fun K hK => ?_) AllReadyH.nil
          go_simp
          refine hK.out _ _ ⟨(World.cell?_setCell_other w5 _ _ _ HN.out.1).trans d1, (World.cell?_setCell_other w5 _ _ _ HN.out.2).trans d2⟩ (fun hHeld2 => ?_)
          clear hHeld K hK
          have hHeld := hHeld2
          clear hHeld2
          (try simp only [Act.put, List.setIfInBounds_toArray, List.set_cons_zero, List.set_cons_succ])
          refine wpAnyH_done (by kernel_rfl) ?_ _
          obtain ⟨q2, hG2⟩ := HE.out
          have x0 := hG2.pool.node0 (show k < s.n from hk)
          have xf := hG2.pool.nodeF (show 0 < s.n by omega) (k * 2)
          rw [show q2.nb = q.nb from by unfold Pp.nb; rw [hG2.nv]] at x0 xf
          have HG2 := Lib.hid hG2
          clear hG2 d1 d2 d3 d4 hHeld
          generalize w5.setCell ⟨q.rb, t, none⟩ (.slice (some ⟨g, 0, none⟩) (n + 1) cp) = W6 at x0 xf HG2 ⊢
          go_wp2
          go_ret
          exact HG2.out.fin rfl rfl hk _ _ (by rw [HLn.out.1]; exact give_some s (k + 1) t)
end Go.Proofs.Ytjkheoiebabkhaa
