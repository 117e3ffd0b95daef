/- The contract of package pool's New. -/
import Derived.Test.YtdhpmcafekpfhaaGreatPoolGive
namespace Go.Proofs.YtdhpmcafekpfhaaGreat
open Go.RowKit
set_option linter.unusedVariables false

theorem pinfo_row : (Tryz.prog.info? 22).map (fun i => (i.zero, i.size, i.bytes)) = some (some (.slice none 0 0), 1, 24) := by kernel_rfl

/-! ### plain -/
/-- a pool in the making: m nodes so far, e for each thread -/
def mkS (T e m : Nat) : PS := { n := m, T := T, own := fun id => (((id - 1) / e : Nat) : Int), out := fun _ => false, row := fun u => (List.range (min e (m - u * e))).map fun j => u * e + j + 1 }
def newPl (T e : Nat) : PS := mkS T e (T * e)
theorem mk_row {T e t k : Nat} (hk : k ≤ e) : (mkS T e (t * e + k)).row t = (List.range k).map fun j => t * e + j + 1 := by
  show (List.range (min e (t * e + k - t * e))).map _ = _
  rw [show min e (t * e + k - t * e) = k by omega]
theorem mk_next {T e t k : Nat} (hk : k < e) (u : Nat) : (mkS T e (t * e + k + 1)).row u = upd (mkS T e (t * e + k)).row t ((mkS T e (t * e + k)).row t ++ [t * e + k + 1]) u := by
  by_cases h : u = t
  · subst h
    rw [upd_same, mk_row (Nat.le_of_lt hk), show u * e + k + 1 = u * e + (k + 1) by omega, mk_row (show k + 1 ≤ e by omega), List.range_succ, List.map_append]
    rfl
  · rw [upd_other _ _ h]
    show (List.range (min e (t * e + k + 1 - u * e))).map _ = (List.range (min e (t * e + k - u * e))).map _
    have : min e (t * e + k + 1 - u * e) = min e (t * e + k - u * e) := by
      rcases Nat.lt_or_ge u t with h1 | h1
      · have := Nat.mul_le_mul_right e (show u + 1 ≤ t by omega)
        rw [Nat.succ_mul] at this
        omega
      · have := Nat.mul_le_mul_right e (show t + 1 ≤ u by omega)
        rw [Nat.succ_mul] at this
        omega
    rw [this]
theorem mk_own {T e t k : Nat} (hk : k < e) : (mkS T e (t * e + k)).own (t * e + k + 1) = (t : Int) := by
  show (((t * e + k + 1 - 1) / e : Nat) : Int) = _
  rw [Nat.add_sub_cancel, Nat.add_comm, Nat.add_mul_div_right _ _ (by omega), Nat.div_eq_of_lt hk, Nat.zero_add]

theorem new_row {T e t : Nat} (ht : t < T) : (newPl T e).row t = (List.range e).map fun j => t * e + j + 1 := by
  show (List.range (min e (T * e - t * e))).map _ = _
  have := Nat.mul_le_mul_right e (show t + 1 ≤ T by omega)
  rw [Nat.succ_mul] at this
  rw [show min e (T * e - t * e) = e by omega]
theorem new_inv {T e : Nat} (t1 : 1 ≤ T) (t2 : T ≤ 64) (e1 : 1 ≤ e) (e2 : e ≤ 8) : PInv (newPl T e) := by
  have hm : T * e ≤ 64 * 8 := Nat.mul_le_mul t2 e2
  have hm1 : 1 * 1 ≤ T * e := Nat.mul_le_mul t1 e1
  refine ⟨by show 1 ≤ T * e; omega, by show T * e ≤ 512; omega, t2, fun t id ht hid => ?_, fun id h1 h2 => .inr ⟨(id - 1) / e, ?_, rfl, ?_⟩, fun t ht => ?_⟩
  · rw [new_row (T := T) ht] at hid
    simp only [List.mem_map, List.mem_range] at hid
    obtain ⟨j, hj, rfl⟩ := hid
    have ht' : t < T := ht
    have := Nat.mul_le_mul_right e (show t + 1 ≤ T by omega)
    rw [Nat.succ_mul] at this
    refine ⟨by omega, by show t * e + j + 1 ≤ T * e; omega, mk_own (T := T) (t := t) hj⟩
  · show (id - 1) / e < T
    have h2' : id ≤ T * e := h2
    exact Nat.div_lt_of_lt_mul (by rw [Nat.mul_comm]; omega)
  · have h2' : id ≤ T * e := h2
    rw [new_row (show (id - 1) / e < T from Nat.div_lt_of_lt_mul (by rw [Nat.mul_comm]; omega))]
    simp only [List.mem_map, List.mem_range]
    refine ⟨(id - 1) % e, Nat.mod_lt _ (by omega), ?_⟩
    have := Nat.div_add_mod (id - 1) e
    rw [Nat.mul_comm]
    omega
  · rw [new_row (T := T) ht]
    refine List.Pairwise.map _ (fun a b h => ?_) List.nodup_range
    exact fun x => h (by omega)

theorem ids_succ (n : Nat) : ids (n + 1) = ids n ++ [n + 1] := by
  unfold ids
  rw [List.range_succ, List.map_append]
  rfl

/-- a pool in the making, told from the world in which New was called -/
structure NMk (w : World) (s : PS) (q : Pp) (wr : World) : Prop where
  p : q.p = w.heap.size + 1
  rb : q.rb = w.heap.size
  pool : PoolAt wr q s
  new : ∀ k, q.F s.T k → w.heap.size ≤ k
  wrote : Wrote Nil w wr
namespace NMk
variable {w wr wr' w1 : World} {q : Pp} {s s' : PS}
theorem after (h : NMk w s q wr) (k : Wrote Nil wr wr') : NMk w s q wr' := ⟨h.p, h.rb, h.pool.after k, h.new, h.wrote.nil k⟩
theorem congr (h : NMk w s q wr) (hn : s'.n = s.n) (hT : s'.T = s.T) (ho : ∀ id, 1 ≤ id → id ≤ s.n → s'.own id = s.own id ∧ s'.out id = s.out id) (hr : ∀ t, t < s.T → s'.row t = s.row t) : NMk w s' q wr :=
  ⟨h.p, h.rb, h.pool.congr hn hT ho hr, by rw [hT]; exact h.new, h.wrote⟩
theorem setRow (h : NMk w s q wr) {t : Nat} (ht : t < s.T) {v : Value} {l : List Nat} (hown : w1.ownsRow 0 3 1 v l.length (l.map idv)) (hW : Wrote (fun k => (q.rv t).ownBlock = some k) wr w1) (hat : ∀ k, v.ownBlock = some k → (q.rv t).ownBlock = some k ∨ wr.heap.size ≤ k) :
    NMk w (s.setRow t l) (q.setR t v) (w1.setCell ⟨w.heap.size, t, none⟩ v) := by
  obtain ⟨a1, a2, a3⟩ := h.pool.setRow ht hown hW hat
  rw [h.rb] at a1 a2
  refine ⟨h.p, h.rb, a1, fun k hk => ?_, h.wrote.trans a2 fun b hb x => absurd (h.new b x) (by omega)⟩
  rcases a3 k hk with x | x
  · exact h.new k x
  · have := h.wrote.size
    omega
/-- a node more -/
theorem addNode (h : NMk w s q wr) {v : Value} (hown : w1.ownsRow 0 139 2 v (s.n + 1) ((ids s.n).flatMap (nodeC s) ++ nodeC s (s.n + 1))) (hW : Wrote (fun k => q.nv.ownBlock = some k) wr w1) (hat : ∀ k, v.ownBlock = some k → q.nv.ownBlock = some k ∨ wr.heap.size ≤ k) :
    NMk w { s with n := s.n + 1 } { q with nv := v } (w1.setCell ⟨w.heap.size + 1, 0, none⟩ v) := by
  rw [← h.p]
  have P := h.pool
  have lp := blk_lt P.obj
  have lr := P.rows.lt
  have hB : Wrote (One q.p) w1 (w1.setCell ⟨q.p, 0, none⟩ v) := (Wrote.refl _ w1).setCell _ _ fun _ => rfl
  have hA : Wrote (fun k => k = q.p ∨ q.nv.ownBlock = some k) wr (w1.setCell ⟨q.p, 0, none⟩ v) := (hW.mono fun _ _ e => .inr e).trans hB fun b _ e => .inl e
  have hne : ∀ k, v.ownBlock = some k → k ≠ q.p ∧ k ≠ q.rb := fun k hk => by
    rcases hat k hk with x | x
    · exact ⟨fun e => P.low.2.1 (by rw [← e]; exact x), fun e => P.low.2.2 (by rw [← e]; exact x)⟩
    · exact ⟨by omega, by omega⟩
  have hobj : w1.heap[q.p]? = wr.heap[q.p]? := hW.block q.p lp P.low.2.1
  have hnew : ∀ k, ({ q with nv := v } : Pp).F s.T k → w.heap.size ≤ k := fun k hk => by
    rcases hk with x | x | x | x
    · exact h.new k (.inl x)
    · exact h.new k (.inr (.inl x))
    · rcases hat k x with y | y
      · exact h.new k (.inr (.inr (.inl y)))
      · have := h.wrote.size
        omega
    · exact h.new k (.inr (.inr (.inr x)))
  refine ⟨h.p, h.rb, ⟨?_, ?_, ?_, fun t ht => ?_, P.apart, fun t ht k hk => ⟨(P.far t ht k hk).1, (P.far t ht k hk).2.1, fun e => ?_⟩, P.low.1, fun e => (hne _ e).1 rfl, fun e => (hne _ e).2 rfl⟩, hnew, h.wrote.trans hA fun b hb x => ?_⟩
  · show (w1.setCell ⟨q.p, 0, none⟩ v).heap[q.p]? = _
    rw [blk_setCell (hobj.trans P.obj)]
    rfl
  · show (w1.setCell ⟨q.p, 0, none⟩ v).ownsRow 0 _ 2 v (s.n + 1) ((ids (s.n + 1)).flatMap (nodeC s))
    rw [ids_succ, List.flatMap_append, show ([s.n + 1].flatMap (nodeC s)) = nodeC s (s.n + 1) by simp]
    exact ownsRow_keep hown fun b hb => hB.block b (hown.lt b hb).2 (hne b hb).1
  · exact P.rows.of_block (hA.block q.rb lr fun e => e.elim (fun x => P.low.1 x.symm) P.low.2.2)
  · exact ownsRow_keep (P.row t ht) fun b hb => hA.block b ((P.row t ht).lt b hb).2 fun e => e.elim (P.far t ht b hb).1 (P.far t ht b hb).2.2
  · rcases hat k e with x | x
    · exact (P.far t ht k hk).2.2 x
    · have := ((P.row t ht).lt k hk).2
      omega
  · rcases x with x | x
    · exact absurd (h.new b (.inl x)) (by omega)
    · exact absurd (h.new b (.inr (.inr (.inl x)))) (by omega)
end NMk
def NSt (w : World) (s : PS) (wr : World) : Prop := ∃ q, NMk w s q wr

def NewPoolPost (w : World) (T e : Nat) (en : Ending) (w' : World) : Prop :=
  ∃ q : Pp, en = .returned (.tuple #[.pointer (some ⟨q.p, 0, none⟩), .int .i64 0]) ∧ PoolAt w' q (newPl T e) ∧ (∀ k, q.F T k → w.heap.size ≤ k) ∧ Wrote Nil w w'

theorem po_new_no (a b : Int) (h : a < 1 ∨ 64 < a ∨ b < 1 ∨ 8 < b) (w : World) :
    Calls Tryz.prog 36 #[.int .i64 a, .int .i64 b] w fun e w' => e = .returned (.tuple #[.pointer none, .int .i64 1]) ∧ w = w' := by
  by_cases h1 : a < 1
  · go_enter Tryz.func36, Tryz.ntmps36
    go_wp2
    go_ret2
    exact ⟨rfl, rfl⟩
  by_cases h2 : 64 < a
  · go_enter Tryz.func36, Tryz.ntmps36
    go_wp2
    go_ret2
    exact ⟨rfl, rfl⟩
  by_cases h3 : b < 1
  · go_enter Tryz.func36, Tryz.ntmps36
    go_wp2
    go_ret2
    exact ⟨rfl, rfl⟩
  have h4 : 8 < b := by omega
  go_enter Tryz.func36, Tryz.ntmps36
  go_wp2
  go_ret2
  exact ⟨rfl, rfl⟩

theorem nmk_start (w : World) (T e : Nat) : NMk w (mkS T e (0 * e)) ⟨w.heap.size + 1, .slice none 0 0, w.heap.size, fun _ => .slice none 0 0⟩ ((w.alloc (.cells (madeCells #[.slice none 0 0] T) 22)).alloc (.cells #[.slice none 0 0, .slice (some ⟨w.heap.size, 0, none⟩) T T] 135)) := by
  have h1 := World.rowIs_made w (.slice none 0 0) T 22
  have hs : (w.alloc (.cells (madeCells #[.slice none 0 0] T) 22)).heap.size = w.heap.size + 1 := Go.Deep.nblk_alloc _ _
  have hb := Go.Deep.blk_alloc_new (w.alloc (.cells (madeCells #[.slice none 0 0] T) 22)) (.cells #[.slice none 0 0, .slice (some ⟨w.heap.size, 0, none⟩) T T] 135)
  rw [hs] at hb
  have hn : ∀ k : Nat, (Value.slice none 0 0).ownBlock ≠ some k := fun k h => by simp [Value.ownBlock] at h
  refine ⟨rfl, rfl, ⟨hb, ?_, h1.of_block (Go.Deep.blk_alloc_lt _ _ _ (by rw [hs]; omega)), fun t ht => ?_, fun t u _ _ k h _ => absurd h (hn k), fun t _ k h => absurd h (hn k), by show w.heap.size + 1 ≠ w.heap.size; omega, hn _, hn _⟩, fun k hk => ?_, ((Wrote.refl Nil w).alloc _).alloc _⟩
  · show World.ownsRow _ 0 _ 2 _ (0 * e) ((ids (0 * e)).flatMap _)
    rw [Nat.zero_mul]
    exact World.ownsRow_nil _ _ _ _
  · have e0 : (mkS T e (0 * e)).row t = [] := by
      show (List.range (min e (0 * e - t * e))).map _ = _
      rw [Nat.zero_mul, Nat.zero_sub, Nat.min_zero]
      rfl
    rw [e0]
    exact World.ownsRow_nil _ _ _ _
  · rcases hk with x | x | x | ⟨t, _, x⟩
    · show w.heap.size ≤ k
      have x' : k = w.heap.size + 1 := x
      omega
    · have x' : k = w.heap.size := x
      omega
    · exact absurd x (hn k)
    · exact absurd x (hn k)

set_option maxRecDepth 100000 in
set_option maxHeartbeats 4000000 in
theorem po_new (T e : Nat) (t1 : 1 ≤ T) (t2 : T ≤ 64) (e1 : 1 ≤ e) (e2 : e ≤ 8) (w : World) :
    Calls Tryz.prog 36 #[.int .i64 (T : Int), .int .i64 (e : Int)] w (NewPoolPost w T e) := by
  obtain ⟨i0, hi, hz0, hz1, hz2⟩ := info_parts pinfo_int
  obtain ⟨i1, ji, jz0, jz1, jz2⟩ := info_parts pinfo_node
  have hmk := Go.run_make_row' (P := Tryz.prog) 133 22 (.slice none 0 0) 24 Tryz.underlying133 pinfo_row rfl .i64 .i64 T (by omega) (by omega)
  have h1 : ¬ (T : Int) < 1 := by omega
  have h2 : ¬ (64 : Int) < T := by omega
  have h3 : ¬ (e : Int) < 1 := by omega
  have h4 : ¬ (8 : Int) < e := by omega
  have hm : T * e ≤ 64 * 8 := Nat.mul_le_mul t2 e2
  have HM := Lib.hid hm
  clear hm
  have hS : NSt w (mkS T e (0 * e)) ((w.alloc (.cells (madeCells #[.slice none 0 0] T) 22)).alloc (.cells #[.slice none 0 0, .slice (some ⟨w.heap.size, 0, none⟩) T T] 135)) := ⟨_, nmk_start w T e⟩
  go_enter Tryz.func36, Tryz.ntmps36
  go_wp2
  clear hmk
  generalize (w.alloc (.cells (madeCells #[.slice none 0 0] T) 22)).alloc (.cells #[.slice none 0 0, .slice (some ⟨w.heap.size, 0, none⟩) T T] 135) = w0 at hS ⊢
  go_loopw [27] (fun i wr => ∃ t : Nat, t ≤ T ∧ i = .int .i64 t ∧ NSt w (mkS T e (t * e)) wr) (fun i _ => T - (intOf i).toNat)
  case atStart => exact ⟨0, Nat.zero_le _, rfl, hS⟩
  case round =>
    clear hS
    obtain ⟨t, ht, rfl, hS⟩ := hrel
    by_cases hlt : t < T
    · go_wp2
      go_loopw [31] (fun i wr => ∃ k : Nat, k ≤ e ∧ i = .int .i64 k ∧ NSt w (mkS T e (t * e + k)) wr) (fun i _ => e - (intOf i).toNat)
      case atStart => exact ⟨0, Nat.zero_le _, rfl, hS⟩
      case round =>
        clear hS
        obtain ⟨k, hk, rfl, q, hG⟩ := hrel
        by_cases hlk : k < e
        · have hmm : t * e + k + 1 ≤ 512 := by
            have := Nat.mul_le_mul_right e (show t + 1 ≤ T by omega)
            rw [Nat.succ_mul] at this
            have := HM.out
            omega
          have HMK := Lib.hid (mk_next (T := T) (t := t) hlk)
          have hown0 := hG.pool.nodes
          have hO := mk_own (T := T) (t := t) hlk
          have c0 := hG.pool.cell0
          have f0 := hG.pool.frozen 0
          rw [hG.p] at c0 f0
          obtain ⟨m, hm⟩ : ∃ m, m = t * e + k := ⟨_, rfl⟩
          rw [← hm] at hG HMK hown0 hO hmm
          have hmn : (mkS T e m).n = m := rfl
          rw [hmn] at hown0
          obtain ⟨so, cap, hv, _⟩ := own_slice hown0
          rw [hv] at c0 hown0
          have hA : Wrote Nil wr (wr.alloc (.cells #[.int .i64 (t : Int), .bool false] 139)) := (Wrote.refl Nil wr).alloc _
          have hGA := hG.after hA
          have hownA : (wr.alloc (.cells #[.int .i64 (t : Int), .bool false] 139)).ownsRow 0 139 2 (.slice so m cap) m ((ids m).flatMap (nodeC (mkS T e m))) := hown0.alloc _
          have hnc : nodeC (mkS T e m) (m + 1) = [.int .i64 (t : Int), .bool false] := by
            show [Value.int .i64 ((mkS T e m).own (m + 1)), Value.bool false] = _
            rw [hO]
          have hnews : ∀ (j : Nat) (u : Value), [Value.int .i64 (t : Int), .bool false][j]? = some u → (wr.alloc (.cells #[.int .i64 (t : Int), .bool false] 139)).cell? ((⟨wr.heap.size, 0, none⟩ : Addr).add j) = some u := fun j u hu => by
            rw [Go.Addr.add_lit, Nat.zero_add, blk_cell (Go.Deep.blk_alloc_new wr _)]
            have hj : j < 2 := (List.getElem?_eq_some_iff.1 hu).1
            have : j = 0 ∨ j = 1 := by omega
            rcases this with rfl | rfl <;> exact hu
          have hone : ∀ u ∈ [Value.int .i64 (t : Int), .bool false], u.oneCell' = true := by
            intro u hu
            simp only [List.mem_cons, List.not_mem_nil, or_false] at hu
            rcases hu with rfl | rfl <;> rfl
          have KE0 : ∀ g cp w5, w5.ownsRow 0 139 2 (.slice (some ⟨g, 0, none⟩) (m + 1) cp) (m + 1) ((ids m).flatMap (nodeC (mkS T e m)) ++ [.int .i64 (t : Int), .bool false]) → (wr.alloc (.cells #[.int .i64 (t : Int), .bool false] 139)).grownBy w5 (Value.slice so m cap).ownBlock →
              ((Value.slice so m cap).ownBlock = some g ∨ g = (wr.alloc (.cells #[.int .i64 (t : Int), .bool false] 139)).heap.size) →
              w5.cell? ⟨w.heap.size + 1, 0, none⟩ = some (.slice so m cap) ∧ w5.frozen? ⟨w.heap.size + 1, 0, none⟩ = false ∧ ∃ q2 : Pp, q2.nv = .slice (some ⟨g, 0, none⟩) (m + 1) cp ∧ NMk w { mkS T e m with n := m + 1 } q2 (w5.setCell ⟨w.heap.size + 1, 0, none⟩ (.slice (some ⟨g, 0, none⟩) (m + 1) cp)) := fun g cp w5 g1 g2 g3 => by
            have lp := blk_lt hGA.pool.obj
            have hnp : ¬ (Value.slice so m cap).ownBlock = some (w.heap.size + 1) := by rw [← hv, ← hG.p]; exact hG.pool.low.2.1
            have hc := hGA.pool.cell0
            have hf := hGA.pool.frozen 0
            rw [hG.p] at lp hc hf
            rw [hv] at hc
            refine ⟨g2.cell hc fun e => hnp e.symm, ?_, ⟨q.p, .slice (some ⟨g, 0, none⟩) (m + 1) cp, q.rb, q.rv⟩, rfl, ?_⟩
            · rw [World.frozen?_of_block (w := wr.alloc (.cells #[.int .i64 (t : Int), .bool false] 139)) (g2.block _ lp fun e => hnp e.symm)]
              exact hf
            · refine hGA.addNode (v := .slice (some ⟨g, 0, none⟩) (m + 1) cp) (by rw [hmn, hnc]; exact g1) (by rw [hv]; exact (Wrote.refl _ _).grown g2 fun b hb _ => hb) fun b hb => ?_
              have hb' : g = b := by simpa [Value.ownBlock] using hb
              subst hb'
              rw [hv]
              rcases g3 with x | x
              · exact .inl x
              · exact .inr (by omega)
          have HK0 := Lib.hid KE0
          have HO0 := Lib.hid (And.intro hownA (And.intro hnews hone))
          have HM2 := Lib.hid hm
          have HOW := Lib.hid hO
          have hml : m + 1 ≤ maxLen := by unfold maxLen; omega
          clear KE0 hownA hnews hone hGA hA hnc hown0 hv hG hm hmn hO
          go_upto_region 10 with (at_builtin; refine wpList_append_lies _ (by rfl) (.tmp 37) (.tmp 40) 132 (by rfl) 0 139 i1 (.agg #[.int .i64 0, .bool false]) 2 16 Tryz.underlying132 ji jz0 jz1 jz2 rfl (by decide) (.slice so m cap) m ((ids m).flatMap (nodeC (mkS T e m))) (by rfl) HO0.out.1 ⟨wr.heap.size, 0, none⟩ 1 1 [.int .i64 (t : Int), .bool false] (by rfl) rfl HO0.out.2.1 HO0.out.2.2 (by decide) hml (by omega) (Nat.zero_le _) _ rfl ?_; intro g cp w5 g1 g2 g3 g4; obtain ⟨d0, df, hq⟩ := HK0.out g cp w5 g1 g2 g3; have HQ := Lib.hid hq; clear g1 g2 g3 g4 hq)
          generalize w5.setCell ⟨w.heap.size + 1, 0, none⟩ (.slice (some ⟨g, 0, none⟩) (m + 1) cp) = W6 at HQ ⊢
          clear d0 df HK0 HO0 c0 f0
          obtain ⟨q2, hqv, hG⟩ := HQ.out
          clear HQ
          have c0 := hG.pool.cell0
          have c1 := hG.pool.cell1
          rw [hG.p, hqv] at c0
          rw [hG.p, hG.rb] at c1
          have c1 : W6.cell? ⟨w.heap.size + 1, 1, none⟩ = some (.slice (some ⟨w.heap.size, 0, none⟩) T T) := c1
          have c3 := hG.pool.rowCell (show t < T from hlt)
          have f3 := hG.pool.rows.frozen t
          rw [hG.rb] at c3 f3
          have hrow := hG.pool.row t hlt
          obtain ⟨sr, cr, hv, _⟩ := own_slice hrow
          obtain ⟨L, hL⟩ : ∃ L, L = (mkS T e m).row t := ⟨_, rfl⟩
          have hrow : W6.ownsRow 0 3 1 (q2.rv t) L.length (L.map idv) := by rw [hL]; exact hrow
          have hv : q2.rv t = .slice sr L.length cr := by rw [hL]; exact hv
          obtain ⟨n, hn'⟩ : ∃ n, n = L.length := ⟨_, rfl⟩
          rw [← hn'] at hrow hv
          rw [hv] at c3 hrow
          have hnl : n ≤ 512 := by
            have : L.length ≤ e := by rw [hL]; show ((List.range _).map _).length ≤ e; rw [List.length_map, List.length_range]; exact Nat.min_le_left _ _
            omega
          have hA : Wrote Nil W6 (W6.alloc (.cells #[.int .i64 ((m : Int) + 1)] 3)).drew := ((Wrote.refl Nil W6).alloc _).drew
          have hGA := hG.after hA
          have e0 := hA.old c0
          have e1 := hA.old c1
          have e3 := hA.old c3
          have hown : (W6.alloc (.cells #[.int .i64 ((m : Int) + 1)] 3)).drew.ownsRow 0 3 1 (.slice sr n cr) n (L.map idv) := hrow.alloc _
          have hnews : ∀ (j : Nat) (u : Value), [Value.int .i64 ((m : Int) + 1)][j]? = some u → (W6.alloc (.cells #[.int .i64 ((m : Int) + 1)] 3)).drew.cell? ((⟨W6.heap.size, 0, none⟩ : Addr).add j) = some u := fun j u hu => cell_one_new W6 _ _ j u hu
          have hml2 : n + 1 ≤ maxLen := by unfold maxLen; omega
          have ht' : (t : Int) < (T : Int) := by omega
          have hfar : ∀ b, (Value.slice sr n cr).ownBlock = some b → b ≠ w.heap.size + 1 ∧ b ≠ w.heap.size := fun b hb => by
            have := hG.pool.far t hlt b (by rw [hv]; exact hb)
            rw [hG.p, hG.rb] at this
            exact ⟨this.1, this.2.1⟩
          have lr := hGA.pool.rows.lt
          rw [hG.rb] at lr
          have KF : ∀ (g2 cp2 : Nat) w5, (W6.alloc (.cells #[.int .i64 ((m : Int) + 1)] 3)).drew.grownBy w5 (Value.slice sr n cr).ownBlock →
              w5.cell? ⟨w.heap.size + 1, 1, none⟩ = some (.slice (some ⟨w.heap.size, 0, none⟩) T T) ∧ w5.cell? ⟨w.heap.size + 1, 0, none⟩ = some (.slice (some ⟨g, 0, none⟩) (m + 1) cp) ∧ w5.cell? ⟨w.heap.size, t, none⟩ = some (.slice sr n cr) ∧ w5.frozen? ⟨w.heap.size, t, none⟩ = false := fun g2 cp2 w5 k2 => by
            refine ⟨k2.cell e1 fun e => (hfar _ e.symm).1 rfl, k2.cell e0 fun e => (hfar _ e.symm).1 rfl, k2.cell e3 fun e => (hfar _ e.symm).2 rfl, ?_⟩
            rw [World.frozen?_of_block (w := (W6.alloc (.cells #[.int .i64 ((m : Int) + 1)] 3)).drew) (k2.block w.heap.size lr fun e => (hfar _ e.symm).2 rfl)]
            have := hGA.pool.rows.frozen t
            rw [hG.rb] at this
            exact this
          have KE : ∀ g2 cp2 w5, w5.ownsRow 0 3 1 (.slice (some ⟨g2, 0, none⟩) (n + 1) cp2) (n + 1) (L.map idv ++ [.int .i64 ((m : Int) + 1)]) → (W6.alloc (.cells #[.int .i64 ((m : Int) + 1)] 3)).drew.grownBy w5 (Value.slice sr n cr).ownBlock →
              ((Value.slice sr n cr).ownBlock = some g2 ∨ g2 = (W6.alloc (.cells #[.int .i64 ((m : Int) + 1)] 3)).drew.heap.size) →
              NSt w (mkS T e (t * e + (k + 1))) (w5.setCell ⟨w.heap.size, t, none⟩ (.slice (some ⟨g2, 0, none⟩) (n + 1) cp2)) := fun g2 cp2 w5 k1 k2 k3 => by
            have hl : (L ++ [m + 1]).length = n + 1 := by simp [hn']
            have hmm2 : (L ++ [m + 1]).map idv = L.map idv ++ [.int .i64 ((m : Int) + 1)] := by simp [idv]
            have G1 := hGA.setRow (t := t) hlt (v := .slice (some ⟨g2, 0, none⟩) (n + 1) cp2) (l := L ++ [m + 1]) (by rw [hl, hmm2]; exact k1) (by rw [hv]; exact (Wrote.refl _ _).grown k2 fun b hb _ => hb) fun b hb => by
              have hb' : g2 = b := by simpa [Value.ownBlock] using hb
              subst hb'
              rw [hv]
              rcases k3 with x | x
              · exact .inl x
              · exact .inr (by omega)
            refine ⟨_, G1.congr (by show t * e + (k + 1) = m + 1; rw [HM2.out]; omega) rfl (fun _ _ _ => ⟨rfl, rfl⟩) fun u hu => ?_⟩
            show (mkS T e (t * e + (k + 1))).row u = upd (mkS T e m).row t (L ++ [m + 1]) u
            rw [hL, show t * e + (k + 1) = m + 1 by rw [HM2.out]; omega]
            exact HMK.out u
          have HN := Lib.hid (show (⟨w.heap.size, t, none⟩ : Addr) ≠ ⟨w.heap.size + 1, 1, none⟩ ∧ (⟨w.heap.size, t, none⟩ : Addr) ≠ ⟨w.heap.size + 1, 0, none⟩ from ⟨fun e => by simp only [Addr.mk.injEq] at e; omega, fun e => by simp only [Addr.mk.injEq] at e; omega⟩)
          have HK := Lib.hid (And.intro KF KE)
          have HO := Lib.hid (And.intro hown hnews)
          have E12 := Lib.hid (And.intro e1 e0)
          have E3 := Lib.hid (show (W6.alloc (.cells #[.int .i64 ((m : Int) + 1)] 3)).cell? ⟨w.heap.size, t, none⟩ = some (.slice sr n cr) from e3)
          clear hG hrow hv KF KE hown hnews hGA hfar lr hA hL hn' e0 e1 e3 hqv
          refine wp_region_held_drew (S := fun w' => w'.cell? ⟨w.heap.size + 1, 1, none⟩ = some (.slice (some ⟨w.heap.size, 0, none⟩) T T) ∧ w'.cell? ⟨w.heap.size + 1, 0, none⟩ = some (.slice (some ⟨g, 0, none⟩) (m + 1) cp)) (by kernel_rfl) ⟨c1, c0⟩ (fun hHeld => ?_)
          refine wpAnyH_take (i := 0) (v := ?v1) rfl (by kernel_rfl) (by kernel_rfl) (by kernel_rfl) (fun _ _ _ h => h) (Or.inl ⟨by rfl, ?hy1⟩) (by assumption) ?rest1
          case hy1 => intro w hSw; (try dsimp only at hSw); go_simp; try with_reducible rfl
          (try simp only [Act.put, List.setIfInBounds_toArray])
          refine wpAnyH_take (i := 1) (v := ?v2) rfl (by kernel_rfl) (by kernel_rfl) (by kernel_rfl) (fun _ _ _ h => h) (Or.inl ⟨by rfl, ?hy2⟩) (by assumption) ?rest2
          case hy2 => intro w hSw; (try dsimp only at hSw); go_simp; try with_reducible rfl
          (try simp only [Act.put])
          refine wpAnyH_take (i := 2) (v := ?v3) rfl (by kernel_rfl) (by kernel_rfl) (by kernel_rfl) (fun _ _ _ h => h) (Or.inl ⟨by rfl, ?hy3⟩) (by assumption) ?rest3
          case hy3 => intro w hSw; (try dsimp only at hSw); go_simp; try with_reducible rfl
          (try simp only [Act.put])
          refine wpAnyH_take (i := 3) (v := ?v4) rfl (by kernel_rfl) (by kernel_rfl) (by kernel_rfl) (fun _ _ _ h => h) (Or.inl ⟨by rfl, ?hy4⟩) (by assumption) ?rest4
          case hy4 => intro w hSw; (try dsimp only at hSw); go_simp; try with_reducible rfl
          (try simp only [Act.put])
          refine wpAnyH_take (i := 4) (v := ?v5) rfl (by kernel_rfl) (by kernel_rfl) (by kernel_rfl) (fun _ _ _ h => h) (Or.inl ⟨by rfl, ?hy5⟩) (by assumption) ?rest5
          case hy5 => intro w hSw; (try dsimp only at hSw); go_simp; try with_reducible rfl
          (try simp only [Act.put])
          refine wpAnyH_take (i := 5) (v := ?v6) rfl (by kernel_rfl) (by kernel_rfl) (by kernel_rfl) (fun _ _ _ h => h) (Or.inl ⟨by rfl, ?hy6⟩) (by assumption) ?rest6
          case hy6 => intro w hSw; (try dsimp only at hSw); go_simp; try with_reducible rfl
          (try simp only [Act.put])
          refine wpAnyH_take (i := 6) (v := ?v7) rfl (by kernel_rfl) (by kernel_rfl) (by kernel_rfl) (fun _ _ _ h => h) (Or.inl ⟨by rfl, ?hy7⟩) (by assumption) ?rest7
          case hy7 => intro w hSw; (try dsimp only at hSw); go_simp; try with_reducible rfl
          (try simp only [Act.put])
          refine wpAnyH_take (i := 7) (v := ?v8) rfl (by kernel_rfl) (by kernel_rfl) (by kernel_rfl) (fun _ _ _ h => h) (Or.inl ⟨by rfl, ?hy8⟩) (by assumption) ?rest8
          case hy8 => intro w hSw; (try dsimp only at hSw); go_simp; try with_reducible rfl
          (try simp only [Act.put])
          refine wpAnyH_take (i := 8) (v := ?v9) rfl (by kernel_rfl) (by kernel_rfl) (by kernel_rfl) (fun _ _ _ h => h) (Or.inl ⟨by rfl, ?hy9⟩) (by assumption) ?rest9
          case hy9 => intro w hSw; (try dsimp only at hSw); go_simp; try with_reducible rfl
          (try simp only [Act.put])
          refine wpAnyH_take (i := 9) (v := ?v10) rfl (by kernel_rfl) (by kernel_rfl) (by kernel_rfl) (fun _ _ _ h => h) (Or.inl ⟨by rfl, ?hy10⟩) (by assumption) ?rest10
          case hy10 => intro w hSw; (try dsimp only at hSw); go_simp; try with_reducible rfl
          (try simp only [Act.put])
          refine wpAnyH_take (i := 10) (v := ?v11) rfl (by kernel_rfl) (by kernel_rfl) (by kernel_rfl) (fun _ _ _ h => h) (Or.inl ⟨by rfl, ?hy11⟩) (by assumption) ?rest11
          case hy11 => intro w hSw; (try dsimp only at hSw); go_simp; try with_reducible rfl
          (try simp only [Act.put])
          refine wpAnyH_take (i := 12) (v := ?v12) rfl (by kernel_rfl) (by kernel_rfl) (by kernel_rfl) (fun _ _ _ h => h) (Or.inl ⟨by rfl, ?hy12⟩) (by assumption) ?rest12
          case hy12 => intro w hSw; (try dsimp only at hSw); go_simp; try with_reducible rfl
          (try simp only [Act.put])
          refine wpAnyH_take (i := 13) (v := ?v13) rfl (by kernel_rfl) (by kernel_rfl) (by kernel_rfl) (fun _ _ _ h => h) (Or.inl ⟨by rfl, ?hy13⟩) (by assumption) ?rest13
          case hy13 => intro w hSw; (try dsimp only at hSw); go_simp; try with_reducible rfl
          (try simp only [Act.put])
          refine wpAnyH_take (i := 14) (v := ?v14) rfl (by kernel_rfl) (by kernel_rfl) (by kernel_rfl) (fun _ _ _ h => h) (Or.inl ⟨by rfl, ?hy14⟩) (by assumption) ?rest14
          case hy14 => intro w hSw; (try dsimp only at hSw); go_simp; try with_reducible rfl
          (try simp only [Act.put])
          refine wpAnyH_take (i := 15) (v := ?v15) rfl (by kernel_rfl) (by kernel_rfl) (by kernel_rfl) (fun _ _ _ h => h) (Or.inl ⟨by rfl, ?hy15⟩) (by assumption) ?rest15
          case hy15 => intro w hSw; (try dsimp only at hSw); go_simp; try with_reducible rfl
          (try simp only [Act.put])
          refine wpAnyH_take (i := 16) (v := ?v16) rfl (by kernel_rfl) (by kernel_rfl) (by kernel_rfl) (fun _ _ _ h => h) (Or.inl ⟨by rfl, ?hy16⟩) (by assumption) ?rest16
          case hy16 => intro w hSw; (try dsimp only at hSw); go_simp; try with_reducible rfl
          (try simp only [Act.put])
          refine wpAnyH_ready (rs := [11, 17]) (by kernel_rfl) (by simp) ?_
          refine AllReadyH.cons rfl (fun K hK => ?_) (AllReadyH.cons rfl (fun K hK => ?_) (AllReadyH.nil))
          · skip
            go_simp
            refine hK.out _ _ ⟨c1, c0⟩ (fun hHeld2 => ?_)
            clear hHeld K hK
            have hHeld := hHeld2
            clear hHeld2
            (try simp only [Act.put, List.setIfInBounds_toArray, List.set_cons_zero, List.set_cons_succ])
            refine wpAnyH_ready (rs := [17]) (by kernel_rfl) (by simp) ?_
            refine AllReadyH.cons rfl (fun K hK => ?_) (AllReadyH.nil)
            go_simp
            refine hK.out _ _ E12.out (fun hHeld2 => ?_)
            clear hHeld K hK
            have hHeld := hHeld2
            clear hHeld2
            (try simp only [Act.put, List.setIfInBounds_toArray, List.set_cons_zero, List.set_cons_succ])
            refine wpAnyH_ready (rs := [18]) (by kernel_rfl) (by simp) ?_
            refine AllReadyH.cons rfl (fun K hK => ?_) (AllReadyH.nil)
            refine step_append_lies _ (by rfl) _ _ 22 (by rfl) 0 3 i0 (.int .i64 0) 1 8 Tryz.underlying22 hi hz0 hz1 hz2 rfl (by decide) (.slice sr n cr) n (L.map idv) (by simp [Act.eval]) HO.out.1 ⟨W6.heap.size, 0, none⟩ 1 1 [.int .i64 ((m : Int) + 1)] (by simp [Act.eval]) rfl HO.out.2 (by simp [Value.oneCell']) (by decide) hml2 (by omega) (Nat.zero_le _) _ rfl ?_
            intro g2 cp2 w7 g1 k2 k3 k4
            obtain ⟨d1, d2, d3, d4⟩ := HK.out.1 g2 cp2 w7 k2
            have HE := Lib.hid (HK.out.2 g2 cp2 w7 g1 k2 k3)
            clear g1 k2 k3 k4
            refine hK.out _ _ ⟨d1, d2⟩ (fun hHeld2 => ?_)
            clear hHeld K hK
            have hHeld := hHeld2
            clear hHeld2
            (try simp only [Act.put, List.setIfInBounds_toArray])
            refine wpAnyH_take (i := 19) (v := ?v17) rfl (by kernel_rfl) (by kernel_rfl) (by kernel_rfl) (fun _ _ _ h => h) (Or.inl ⟨by rfl, ?hy17⟩) (by assumption) ?rest17
            case hy17 => intro w hSw; (try dsimp only at hSw); go_simp; try with_reducible rfl
            (try simp only [Act.put])
            refine wpAnyH_ready (rs := [20]) (by kernel_rfl) (by simp) ?_
            refine AllReadyH.cons rfl (fun K hK => ?_) (AllReadyH.nil)
            go_simp
            refine hK.out _ _ ⟨(World.cell?_setCell_other w7 _ _ _ HN.out.1).trans d1, (World.cell?_setCell_other w7 _ _ _ HN.out.2).trans d2⟩ (fun hHeld2 => ?_)
            clear hHeld K hK
            have hHeld := hHeld2
            clear hHeld2
            (try simp only [Act.put, List.setIfInBounds_toArray, List.set_cons_zero, List.set_cons_succ])
            refine wpAnyH_done (by kernel_rfl) ?_ _
            generalize w7.setCell ⟨w.heap.size, t, none⟩ (.slice (some ⟨g2, 0, none⟩) (n + 1) cp2) = W8 at HE ⊢
            clear d1 d2 d3 d4 hHeld c0 c1 c3 f3
            go_wp2
            go_roundw
            case rel => exact ⟨k + 1, by omega, by go_num, HE.out⟩
            case measure => simp [intOf]; omega
          · skip
            go_simp
            refine hK.out _ _ E12.out (fun hHeld2 => ?_)
            clear hHeld K hK
            have hHeld := hHeld2
            clear hHeld2
            (try simp only [Act.put, List.setIfInBounds_toArray, List.set_cons_zero, List.set_cons_succ])
            have e3 := E3.out
            refine wpAnyH_ready (rs := [11]) (by kernel_rfl) (by simp) ?_
            refine AllReadyH.cons rfl (fun K hK => ?_) (AllReadyH.nil)
            go_simp
            refine hK.out _ _ E12.out (fun hHeld2 => ?_)
            clear hHeld K hK
            have hHeld := hHeld2
            clear hHeld2
            (try simp only [Act.put, List.setIfInBounds_toArray, List.set_cons_zero, List.set_cons_succ])
            refine wpAnyH_ready (rs := [18]) (by kernel_rfl) (by simp) ?_
            refine AllReadyH.cons rfl (fun K hK => ?_) (AllReadyH.nil)
            refine step_append_lies _ (by rfl) _ _ 22 (by rfl) 0 3 i0 (.int .i64 0) 1 8 Tryz.underlying22 hi hz0 hz1 hz2 rfl (by decide) (.slice sr n cr) n (L.map idv) (by simp [Act.eval]) HO.out.1 ⟨W6.heap.size, 0, none⟩ 1 1 [.int .i64 ((m : Int) + 1)] (by simp [Act.eval]) rfl HO.out.2 (by simp [Value.oneCell']) (by decide) hml2 (by omega) (Nat.zero_le _) _ rfl ?_
            intro g2 cp2 w7 g1 k2 k3 k4
            obtain ⟨d1, d2, d3, d4⟩ := HK.out.1 g2 cp2 w7 k2
            have HE := Lib.hid (HK.out.2 g2 cp2 w7 g1 k2 k3)
            clear g1 k2 k3 k4
            refine hK.out _ _ ⟨d1, d2⟩ (fun hHeld2 => ?_)
            clear hHeld K hK
            have hHeld := hHeld2
            clear hHeld2
            (try simp only [Act.put, List.setIfInBounds_toArray])
            refine wpAnyH_take (i := 19) (v := ?v18) rfl (by kernel_rfl) (by kernel_rfl) (by kernel_rfl) (fun _ _ _ h => h) (Or.inl ⟨by rfl, ?hy18⟩) (by assumption) ?rest18
            case hy18 => intro w hSw; (try dsimp only at hSw); go_simp; try with_reducible rfl
            (try simp only [Act.put])
            refine wpAnyH_ready (rs := [20]) (by kernel_rfl) (by simp) ?_
            refine AllReadyH.cons rfl (fun K hK => ?_) (AllReadyH.nil)
            go_simp
            refine hK.out _ _ ⟨(World.cell?_setCell_other w7 _ _ _ HN.out.1).trans d1, (World.cell?_setCell_other w7 _ _ _ HN.out.2).trans d2⟩ (fun hHeld2 => ?_)
            clear hHeld K hK
            have hHeld := hHeld2
            clear hHeld2
            (try simp only [Act.put, List.setIfInBounds_toArray, List.set_cons_zero, List.set_cons_succ])
            refine wpAnyH_done (by kernel_rfl) ?_ _
            generalize w7.setCell ⟨w.heap.size, t, none⟩ (.slice (some ⟨g2, 0, none⟩) (n + 1) cp2) = W8 at HE ⊢
            clear d1 d2 d3 d4 hHeld c0 c1 c3 f3
            go_wp2
            go_roundw
            case rel => exact ⟨k + 1, by omega, by go_num, HE.out⟩
            case measure => simp [intOf]; omega
        · obtain rfl : k = e := by omega
          have HG := Lib.hid hG
          clear hG
          go_wp2
          go_roundw
          case rel => exact ⟨t + 1, by omega, by go_num, q, by rw [Nat.succ_mul]; exact HG.out⟩
          case measure => simp [intOf]; omega
    · obtain rfl : t = T := by omega
      obtain ⟨q, hG⟩ := hS
      have HG := Lib.hid hG
      clear hG
      go_wp2
      go_ret2
      exact ⟨q, by rw [HG.out.p]; rfl, HG.out.pool, HG.out.new, HG.out.wrote⟩
end Go.Proofs.YtdhpmcafekpfhaaGreat
