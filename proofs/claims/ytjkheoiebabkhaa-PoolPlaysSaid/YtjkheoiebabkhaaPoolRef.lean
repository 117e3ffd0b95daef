/- The contracts of the reference's Row and with: a pool is a list of nodes, each with its owner, since when, and whether it is out, and a count. -/
import Derived.Test.YtjkheoiebabkhaaPoolLaw
import Derived.Laws.ResultCell
namespace Go.Proofs.Ytjkheoiebabkhaa
open Go.RowKit
set_option linter.unusedVariables false

theorem pinfo_rnode : (Try.prog.info? 57).map (fun i => (i.zero, i.size, i.bytes)) = some (some (.agg #[.int .i64 0, .int .i64 0, .bool false]), 3, 24) := by kernel_rfl

/-- the three cells of a node of the reference -/
def refC (s : PS) (since : Nat → Nat) (id : Nat) : List Value := [.int .i64 (s.own id), .int .i64 (since id : Int), .bool (s.out id)]
theorem refC_len (s : PS) (since : Nat → Nat) : ∀ x, (refC s since x).length = 3 := fun _ => rfl
theorem refC_one (s : PS) (since : Nat → Nat) (D : List Nat) : ∀ u ∈ D.flatMap (refC s since), u.oneCell' = true := by
  intro u hu
  simp only [List.mem_flatMap] at hu
  obtain ⟨x, _, hu⟩ := hu
  simp only [refC, List.mem_cons, List.not_mem_nil, or_false] at hu
  rcases hu with rfl | rfl | rfl <;> rfl
/-- the nodes of the reference's pool -/
abbrev RfAt (w : World) (so : Option Addr) (s : PS) (since : Nat → Nat) : Prop := RecsAt (refC s since) 3 w so s.n (ids s.n)
/-- where they lie -/
theorem rf_at {w : World} {so : Option Addr} {s : PS} {since : Nat → Nat} (h : RfAt w so s since) (hn : 0 < s.n) :
    ∃ b o, so = some ⟨b, o, none⟩ ∧ ∀ k, k < s.n → w.cell? ⟨b, o + k * 3, none⟩ = some (.int .i64 (s.own (k + 1))) ∧ w.cell? ⟨b, o + k * 3 + 1, none⟩ = some (.int .i64 (since (k + 1) : Int)) ∧ w.cell? ⟨b, o + k * 3 + 2, none⟩ = some (.bool (s.out (k + 1))) := by
  rcases h.at (fun x => by simp [refC]) with h0 | ⟨b, o, e, hc⟩
  · omega
  · refine ⟨b, o, e, fun k hk => ⟨hc k (k + 1) (ids_at hk) 0 _ rfl, hc k (k + 1) (ids_at hk) 1 _ rfl, hc k (k + 1) (ids_at hk) 2 _ rfl⟩⟩
theorem rf_congr {w : World} {so : Option Addr} {s s' : PS} {since since' : Nat → Nat} (h : RfAt w so s since) (hn : s'.n = s.n) (ho : ∀ id, 1 ≤ id → id ≤ s.n → s'.own id = s.own id ∧ s'.out id = s.out id ∧ since' id = since id) : RfAt w so s' since' := by
  unfold RfAt
  rw [hn]
  refine ⟨h.len, h.empty, fun b hb k x hx j u hu => h.cell b hb k x hx j u ?_⟩
  obtain ⟨hk, rfl⟩ := ids_some hx
  obtain ⟨e1, e2, e3⟩ := ho (k + 1) (by omega) (by omega)
  unfold refC at hu ⊢
  rw [← e1, ← e2, ← e3]
  exact hu

/-! ### with -/
def WithPost (w : World) (s' : PS) (since' : Nat → Nat) (C : Int) (e : Ending) (w' : World) : Prop :=
  ∃ so cap, e = .returned (.agg #[.slice so s'.n cap, .int .i64 C]) ∧ RfAt w' so s' since' ∧ Wrote Nil w w' ∧ ∀ b, so = some b → w.heap.size ≤ b.block

/-- three cells of an owned row of records turned -/
theorem rf_store {w : World} {g cap k : Nat} {s s' : PS} {since since' : Nat → Nat} {o σ : Int} {b : Bool} (h : w.ownsRow 0 57 3 (.slice (some ⟨g, 0, none⟩) s.n cap) s.n ((ids s.n).flatMap (refC s since))) (hk : k < s.n) (hn : s'.n = s.n)
    (hv : ∀ id, refC s' since' id = if id = k + 1 then [.int .i64 o, .int .i64 σ, .bool b] else refC s since id) :
    (((w.setCell ⟨g, k * 3, none⟩ (.int .i64 o)).setCell ⟨g, k * 3 + 1, none⟩ (.int .i64 σ)).setCell ⟨g, k * 3 + 2, none⟩ (.bool b)).ownsRow 0 57 3 (.slice (some ⟨g, 0, none⟩) s'.n cap) s'.n ((ids s'.n).flatMap (refC s' since')) := by
  rw [hn]
  have key : (((((ids s.n).flatMap (refC s since)).set (k * 3) (.int .i64 o)).set (k * 3 + 1) (.int .i64 σ)).set (k * 3 + 2) (.bool b)) = (ids s.n).flatMap (refC s' since') := by
    apply List.ext_getElem?
    intro m
    have hl : ((ids s.n).flatMap (refC s since)).length = s.n * 3 := by rw [flat_len (refC_len s since), ids_len]
    have hl' : ((ids s.n).flatMap (refC s' since')).length = s.n * 3 := by rw [flat_len (refC_len s' since'), ids_len]
    by_cases hm : m < s.n * 3
    · have ha : m / 3 < s.n := by omega
      have hb : m % 3 < 3 := by omega
      have e : m = m / 3 * 3 + m % 3 := by omega
      have h1 := flat_at' (refC_len s since) (ids s.n) (ids_at ha) hb
      have h2 := flat_at' (refC_len s' since') (ids s.n) (ids_at ha) hb
      rw [← e] at h1 h2
      have hvm := hv (m / 3 + 1)
      by_cases hk2 : m / 3 = k
      · rw [if_pos (by omega)] at hvm
        rw [h2, hvm]
        simp only [List.getElem?_set, List.length_set, hl]
        have : m % 3 = 0 ∨ m % 3 = 1 ∨ m % 3 = 2 := by omega
        rcases this with x | x | x
        · rw [if_neg (by omega), if_neg (by omega), if_pos (by omega), if_pos (by omega), x]
          rfl
        · rw [if_neg (by omega), if_pos (by omega), if_pos (by omega), x]
          rfl
        · rw [if_pos (by omega), if_pos (by omega), x]
          rfl
      · rw [if_neg (by omega)] at hvm
        rw [h2, hvm, ← h1]
        simp only [List.getElem?_set]
        rw [if_neg (by omega), if_neg (by omega), if_neg (by omega)]
    · rw [List.getElem?_eq_none (by simp only [List.length_set, hl]; omega), List.getElem?_eq_none (by omega)]
  have h1 := ownsRow_set h (k * 3) (.int .i64 o) (by omega) rfl
  have h2 := ownsRow_set h1 (k * 3 + 1) (.int .i64 σ) (by omega) rfl
  exact ownsRow_set h2 (k * 3 + 2) (.bool b) (by omega) key

theorem three_new (w : World) (o0 o1 o2 : Obj) : ((((w.alloc o0).alloc o1).alloc o2).heap[w.heap.size]? = some o0 ∧ (((w.alloc o0).alloc o1).alloc o2).heap[w.heap.size + 1]? = some o1 ∧ (((w.alloc o0).alloc o1).alloc o2).heap[w.heap.size + 2]? = some o2) ∧ (((w.alloc o0).alloc o1).alloc o2).heap.size = w.heap.size + 3 := by
  have s1 : (w.alloc o0).heap.size = w.heap.size + 1 := Go.Deep.nblk_alloc _ _
  have s2 : ((w.alloc o0).alloc o1).heap.size = w.heap.size + 2 := by rw [Go.Deep.nblk_alloc, s1]
  refine ⟨⟨?_, ?_, ?_⟩, by rw [Go.Deep.nblk_alloc, s2]⟩
  · rw [Go.Deep.blk_alloc_lt _ _ _ (by omega), Go.Deep.blk_alloc_lt _ _ _ (by omega), Go.Deep.blk_alloc_new]
  · rw [Go.Deep.blk_alloc_lt _ _ _ (by omega), ← s1, Go.Deep.blk_alloc_new]
  · rw [← s2, Go.Deep.blk_alloc_new]

theorem own_there {w : World} {base : Nat} {e : TypeId} {size g n cap : Nat} {xs : List Value} (h : w.ownsRow base e size (.slice (some ⟨g, 0, none⟩) n cap) n xs) {i : Nat} (hi : i < n * size) : (∃ v, w.cell? ⟨g, i, none⟩ = some v) ∧ w.frozen? ⟨g, i, none⟩ = false := by
  rcases h.2 with ⟨hn, _⟩ | ⟨g', cap', cur, hv, hb, hg, hnc, hcm, hcs, ht⟩
  · cases hn
  · simp only [Value.slice.injEq, Option.some.injEq, Addr.mk.injEq, and_true, true_and] at hv
    obtain ⟨rfl, rfl⟩ := hv
    have := Nat.mul_le_mul_right size hnc
    exact ⟨⟨_, by rw [blk_cell hg, Array.getElem?_eq_getElem (show i < cur.size by omega)]⟩, blk_frozen hg i⟩
/-- behind the append within with: what lies where -/
structure WMid (w w1 : World) (g cp n : Nat) (so : Option Addr) (cap : Nat) (C o σ : Int) (b : Bool) (X : List Value) : Prop where
  own : w1.ownsRow 0 57 3 (.slice (some ⟨g, 0, none⟩) n cp) n X
  b0 : w1.heap[w.heap.size]? = some (.cells #[.slice so n cap, .int .i64 C] 30 (0, 0))
  b1 : w1.heap[w.heap.size + 1]? = some (.cells #[.int .i64 o, .int .i64 σ, .bool b] 57 (0, 0))
  b2 : w1.heap[w.heap.size + 1 + 1]? = some (.cells #[.slice none 0 0, .int .i64 0] 30 (0, 0))
  far : g = w.heap.size + 3
  wrote : Wrote Nil w w1
theorem wmid {w w1 : World} {g cp n : Nat} {so : Option Addr} {cap : Nat} {C o σ : Int} {b : Bool} {X : List Value}
    (g1 : w1.ownsRow w.heap.size 57 3 (.slice (some ⟨g, 0, none⟩) (0 + n) cp) (0 + n) ([] ++ X)) (g2 : (((w.alloc (.cells #[.slice so n cap, .int .i64 C] 30)).alloc (.cells #[.int .i64 o, .int .i64 σ, .bool b] 57)).alloc (.cells #[.slice none 0 0, .int .i64 0] 30)).grownBy w1 (Value.slice none 0 0).ownBlock)
    (g3 : (Value.slice none 0 0).ownBlock = some g ∨ g = (((w.alloc (.cells #[.slice so n cap, .int .i64 C] 30)).alloc (.cells #[.int .i64 o, .int .i64 σ, .bool b] 57)).alloc (.cells #[.slice none 0 0, .int .i64 0] 30)).heap.size) : WMid w w1 g cp n so cap C o σ b X := by
  obtain ⟨⟨h0, h1, h2⟩, hs⟩ := three_new w (.cells #[.slice so n cap, .int .i64 C] 30) (.cells #[.int .i64 o, .int .i64 σ, .bool b] 57) (.cells #[.slice none 0 0, .int .i64 0] 30)
  have hn : ∀ k : Nat, (some k : Option Nat) ≠ (Value.slice none 0 0).ownBlock := fun k e => by simp [Value.ownBlock] at e
  rw [Nat.zero_add, List.nil_append] at g1
  refine ⟨ownsRow_base g1 (Nat.zero_le _), (g2.block _ (by omega) (hn _)).trans h0, (g2.block _ (by omega) (hn _)).trans h1, (g2.block _ (by omega) (hn _)).trans h2, ?_, ((((Wrote.refl Nil w).alloc _).alloc _).alloc _).grown g2 fun k hk => absurd hk.symm (hn k)⟩
  rcases g3 with x | x
  · exact absurd x.symm (hn g)
  · rw [x, hs]

theorem with_end {w w1 : World} {g cp k : Nat} {so : Option Addr} {cap : Nat} {C o σ : Int} {b : Bool} {s s' : PS} {since since' : Nat → Nat} (hM : WMid w w1 g cp s.n so cap C o σ b ((ids s.n).flatMap (refC s since))) (hk : k < s.n) (hn : s'.n = s.n)
    (hv : ∀ id, refC s' since' id = if id = k + 1 then [.int .i64 o, .int .i64 σ, .bool b] else refC s since id) {W : World}
    (hW : W = ((((w1.setCell ⟨g, k * 3, none⟩ (.int .i64 o)).setCell ⟨g, k * 3 + 1, none⟩ (.int .i64 σ)).setCell ⟨g, k * 3 + 2, none⟩ (.bool b)).setCell ⟨w.heap.size + 1 + 1, 0, none⟩ (.slice (some ⟨g, 0, none⟩) s.n cp)).setCell ⟨w.heap.size + 1 + 1, 1, none⟩ (.int .i64 C)) :
    WithPost w s' since' C (.returned (.agg #[.slice (some ⟨g, 0, none⟩) s.n cp, .int .i64 C])) W ∧ W.cell? ⟨w.heap.size + 1 + 1, 0, none⟩ = some (.slice (some ⟨g, 0, none⟩) s.n cp) ∧ W.cell? ⟨w.heap.size + 1 + 1, 1, none⟩ = some (.int .i64 C) := by
  have far := hM.far
  have h1 := rf_store (s := s) (s' := s') (since := since) (since' := since') (o := o) (σ := σ) (b := b) hM.own hk hn hv
  have w1W : Wrote (One g) w1 (((w1.setCell ⟨g, k * 3, none⟩ (.int .i64 o)).setCell ⟨g, k * 3 + 1, none⟩ (.int .i64 σ)).setCell ⟨g, k * 3 + 2, none⟩ (.bool b)) := (((Wrote.refl (One g) w1).setCell ⟨g, k * 3, none⟩ _ fun _ => rfl).setCell ⟨g, k * 3 + 1, none⟩ _ fun _ => rfl).setCell ⟨g, k * 3 + 2, none⟩ _ fun _ => rfl
  have b2 := (w1W.block (w.heap.size + 1 + 1) (blk_lt hM.b2) (fun e => by have e' : w.heap.size + 1 + 1 = g := e; omega)).trans hM.b2
  obtain ⟨V, hV⟩ : ∃ V, V = ((w1.setCell ⟨g, k * 3, none⟩ (.int .i64 o)).setCell ⟨g, k * 3 + 1, none⟩ (.int .i64 σ)).setCell ⟨g, k * 3 + 2, none⟩ (.bool b) := ⟨_, rfl⟩
  rw [← hV] at h1 w1W b2 hW
  have hVW : Wrote (One (w.heap.size + 1 + 1)) V W := by
    rw [hW]
    exact ((Wrote.refl (One (w.heap.size + 1 + 1)) V).setCell ⟨w.heap.size + 1 + 1, 0, none⟩ _ fun _ => rfl).setCell ⟨w.heap.size + 1 + 1, 1, none⟩ _ fun _ => rfl
  have b2W : W.heap[w.heap.size + 1 + 1]? = some (.cells #[.slice (some ⟨g, 0, none⟩) s.n cp, .int .i64 C] 30 (0, 0)) := by
    rw [hW, blk_setCell (blk_setCell b2 0 _) 1 _]
    rfl
  refine ⟨⟨some ⟨g, 0, none⟩, cp, by rw [hn], ?_, ?_, fun b hb => ?_⟩, (blk_cell b2W 0).trans rfl, (blk_cell b2W 1).trans rfl⟩
  · have hW1 := ownsRow_keep (w' := W) h1 fun b hb => hVW.block b (h1.lt b hb).2 (fun e => by
      have hb' : g = b := by simpa [Value.ownBlock] using hb
      have e' : b = w.heap.size + 1 + 1 := e
      omega)
    obtain ⟨sa, cap', e1, _, hr, _⟩ := own_recs (refC_len s' since') hW1 (by decide)
    simp only [Value.slice.injEq] at e1
    rw [e1.1]
    exact hr
  · exact (hM.wrote.one w1W (by omega)).one hVW (by omega)
  · obtain rfl : (⟨g, 0, none⟩ : Addr) = b := by simpa using hb
    show w.heap.size ≤ g
    omega

theorem results_cell1 {fn : Func} {p : Tmp} {ty : TypeId} (h : fn.results = #[.cell p ty]) (tmps : Array Value) (P : Program) (w : World) :
    (results fn tmps).run P w = ((asAddr (tmps.getD p undef)).run P w).andThen fun a w₁ => (loadVar ty a).run P w₁ := by
  simp only [results, h]
  simp [Sem.run_bind, Result.andThen]

set_option maxRecDepth 100000 in
set_option maxHeartbeats 2000000 in
theorem rf_with {w : World} {so : Option Addr} {cap : Nat} {s s' : PS} {since since' : Nat → Nat} (h : RfAt w so s since) (hN : s.n ≤ 1000000) {k : Nat} (hk : k < s.n) (hn : s'.n = s.n) (C o σ : Int) (b : Bool)
    (hv : ∀ id, refC s' since' id = if id = k + 1 then [.int .i64 o, .int .i64 σ, .bool b] else refC s since id) :
    Calls Try.prog 21 #[.agg #[.slice so s.n cap, .int .i64 C], .int .i64 ((k : Int) + 1), .agg #[.int .i64 o, .int .i64 σ, .bool b]] w (WithPost w s' since' C) := by
  obtain ⟨i0, hi, hz0, hz1, hz2⟩ := info_parts pinfo_rnode
  obtain ⟨sb, sof, hso, hcell⟩ := rf_at h (by omega)
  subst hso
  have hnews : ∀ W, Wrote Nil w W → ∀ (j : Nat) (u : Value), ((ids s.n).flatMap (refC s since))[j]? = some u → W.cell? ((⟨sb, sof, none⟩ : Addr).add j) = some u := fun W hW j u hu => by
    have hl : ((ids s.n).flatMap (refC s since)).length = s.n * 3 := by rw [flat_len (refC_len s since), ids_len]
    have hj : j < s.n * 3 := by rw [← hl]; exact (List.getElem?_eq_some_iff.1 hu).1
    have h1 := flat_at' (refC_len s since) (ids s.n) (ids_at (show j / 3 < s.n by omega)) (show j % 3 < 3 by omega)
    rw [show j / 3 * 3 + j % 3 = j by omega, hu] at h1
    have := (h.after hW).cell _ rfl (j / 3) (j / 3 + 1) (ids_at (by omega)) (j % 3) u h1.symm
    rwa [show j / 3 * 3 + j % 3 = j by omega] at this
  obtain ⟨n, hn'⟩ : ∃ n, n = s.n := ⟨_, rfl⟩
  obtain ⟨X, hX⟩ : ∃ X, X = (ids s.n).flatMap (refC s since) := ⟨_, rfl⟩
  have hXl : X.length = n * 3 := by rw [hX, flat_len (refC_len s since), ids_len, hn']
  have hX1 : ∀ u ∈ X, u.oneCell' = true := by rw [hX]; exact refC_one s since _
  have hml : 0 + n ≤ maxLen := by unfold maxLen; omega
  rw [← hX] at hnews
  have hkn : (k : Int) + 1 ≤ n := by omega
  have hk1 : (k : Int) < n := by omega
  have HV := Lib.hid (And.intro h (And.intro hnews (And.intro hv (And.intro hn (And.intro hn' (And.intro hX (And.intro hXl (And.intro hX1 hk))))))))
  rw [← hn'] at hN ⊢
  clear h hcell hnews hv hn hn' hX hXl hX1 hk
  go_enter Try.func21, Try.ntmps21
  go_upto_region 3 with (at_builtin; refine wpList_append_lies _ (by rfl) (.tmp 8) (.tmp 10) 28 (by rfl) w.heap.size 57 i0 (.agg #[.int .i64 0, .int .i64 0, .bool false]) 3 24 Try.underlying28 hi hz0 hz1 hz2 rfl (by decide) (.slice none 0 0) 0 [] (by rfl) (World.ownsRow_nil _ _ _ _) ⟨sb, sof, none⟩ n cap X (by rfl) HV.out.2.2.2.2.2.2.1 (HV.out.2.1 _ ((((Wrote.refl Nil w).alloc _).alloc _).alloc _)) HV.out.2.2.2.2.2.2.2.1 (by omega) hml (by omega) (by simp only [Go.Deep.nblk_alloc]; omega) _ rfl ?_; intro g cp w1 g1 g2 g3 g4; have hM := wmid g1 g2 g3; clear g1 g2 g3 g4)
  have a1 : w1.cell? ⟨w.heap.size, 1, none⟩ = some (.int .i64 C) := (blk_cell hM.b0 1).trans rfl
  have a2 : w1.cell? ⟨w.heap.size + 1, 0, none⟩ = some (.int .i64 o) := (blk_cell hM.b1 0).trans rfl
  have a3 : w1.cell? ⟨w.heap.size + 1, 1, none⟩ = some (.int .i64 σ) := (blk_cell hM.b1 1).trans rfl
  have a4 : w1.cell? ⟨w.heap.size + 1, 2, none⟩ = some (.bool b) := (blk_cell hM.b1 2).trans rfl
  have a5 : w1.cell? ⟨w.heap.size + 1 + 1, 0, none⟩ = some (.slice none 0 0) := (blk_cell hM.b2 0).trans rfl
  have a6 : w1.cell? ⟨w.heap.size + 1 + 1, 1, none⟩ = some (.int .i64 0) := (blk_cell hM.b2 1).trans rfl
  have f5 := blk_frozen hM.b2 0
  have f6 := blk_frozen hM.b2 1
  have hk := HV.out.2.2.2.2.2.2.2.2
  have hns := HV.out.2.2.2.2.1
  obtain ⟨⟨x0, c0⟩, f0⟩ := own_there hM.own (show k * 3 < n * 3 by omega)
  obtain ⟨⟨x1, c1⟩, f1⟩ := own_there hM.own (show k * 3 + 1 < n * 3 by omega)
  obtain ⟨⟨x2, c2⟩, f2⟩ := own_there hM.own (show k * 3 + 2 < n * 3 by omega)
  have far := hM.far
  have e0 : ¬ g = w.heap.size := by omega
  have e1 : ¬ g = w.heap.size + 1 := by omega
  have e2 : ¬ g = w.heap.size + 1 + 1 := by omega
  have HM := Lib.hid hM
  clear hM hk hns far
  go_wp2
  obtain ⟨h, hnews, hv, hn, hns, hX, hXl, hX1, hk⟩ := HV.out
  subst hns hX
  obtain ⟨W5, hW5⟩ : ∃ W5, W5 = ((((w1.setCell ⟨g, k * 3, none⟩ (.int .i64 o)).setCell ⟨g, k * 3 + 1, none⟩ (.int .i64 σ)).setCell ⟨g, k * 3 + 2, none⟩ (.bool b)).setCell ⟨w.heap.size + 1 + 1, 0, none⟩ (.slice (some ⟨g, 0, none⟩) s.n cp)).setCell ⟨w.heap.size + 1 + 1, 1, none⟩ (.int .i64 C) := ⟨_, rfl⟩
  obtain ⟨p1, p2, p3⟩ := with_end HM.out hk hn hv hW5
  rw [← hW5]
  clear hW5 a1 a2 a3 a4 a5 a6 c0 c1 c2 f0 f1 f2 f5 f6 hnews hXl hX1
  refine bodyPost_ret (v := .agg #[.slice (some ⟨g, 0, none⟩) s.n cp, .int .i64 C]) ?_ rfl p1
  rw [results_cell1 rfl]
  go_simp

/-! ### Row -/
/-- is the node number i + 1 t's since σ? -/
def isRow (s : PS) (since : Nat → Nat) (t : Int) (σ i : Nat) : Bool := decide (since (i + 1) = σ) && decide (s.own (i + 1) = t) && decide (0 ≤ t)
/-- t's nodes since σ, of the first i -/
def rowAt (s : PS) (since : Nat → Nat) (t : Int) (σ i : Nat) : List Nat := ((List.range i).filter (isRow s since t σ)).map (· + 1)
/-- t's nodes, the eldest first, those since before C -/
def rowS (s : PS) (since : Nat → Nat) (t : Int) (C : Nat) : List Nat := (List.range C).flatMap fun σ => rowAt s since t σ s.n
theorem rowAt_zero (s : PS) (since : Nat → Nat) (t : Int) (σ : Nat) : rowAt s since t σ 0 = [] := rfl
theorem rowAt_yes {s : PS} {since : Nat → Nat} {t : Int} {σ i : Nat} (h : isRow s since t σ i = true) : rowAt s since t σ (i + 1) = rowAt s since t σ i ++ [i + 1] := by
  unfold rowAt
  rw [List.range_succ, List.filter_append, List.map_append]
  simp [h]
theorem rowAt_no {s : PS} {since : Nat → Nat} {t : Int} {σ i : Nat} (h : isRow s since t σ i = false) : rowAt s since t σ (i + 1) = rowAt s since t σ i := by
  unfold rowAt
  rw [List.range_succ, List.filter_append, List.map_append]
  simp [h]
theorem rowS_succ (s : PS) (since : Nat → Nat) (t : Int) (C : Nat) : rowS s since t (C + 1) = rowS s since t C ++ rowAt s since t C s.n := by
  unfold rowS
  rw [List.range_succ, List.flatMap_append]
  simp
theorem rowAt_len (s : PS) (since : Nat → Nat) (t : Int) (σ i : Nat) : (rowAt s since t σ i).length ≤ i := by
  unfold rowAt
  rw [List.length_map]
  have := List.length_filter_le (isRow s since t σ) (List.range i)
  rwa [List.length_range] at this
theorem rowS_len (s : PS) (since : Nat → Nat) (t : Int) : ∀ C, (rowS s since t C).length ≤ C * s.n
  | 0 => by simp [rowS]
  | C + 1 => by
    rw [rowS_succ, List.length_append, Nat.succ_mul]
    have := rowS_len s since t C
    have := rowAt_len s since t C s.n
    omega

/-- within the search: the list so far, the pool beside it -/
structure RwSt (w : World) (s : PS) (so : Option Addr) (cap : Nat) (C : Nat) (l : List Nat) (ro : Option Addr) (rc : Nat) (wr : World) : Prop where
  out : wr.ownsRow w.heap.size 3 1 (.slice ro l.length rc) l.length (l.map idv)
  box : wr.heap[w.heap.size]? = some (.cells #[.slice so s.n cap, .int .i64 (C : Int)] 30 (0, 0))
  wrote : Wrote Nil w wr
  far : ∀ b, (Value.slice ro l.length rc).ownBlock = some b → b ≠ w.heap.size
theorem RwSt.more {w wr w1 : World} {s : PS} {so : Option Addr} {cap C : Nat} {l : List Nat} {ro : Option Addr} {rc g cp2 x : Nat} (h : RwSt w s so cap C l ro rc wr) {o : Obj}
    (g1 : w1.ownsRow w.heap.size 3 1 (.slice (some ⟨g, 0, none⟩) (l.length + 1) cp2) (l.length + 1) (l.map idv ++ [idv x])) (g2 : (wr.alloc o).grownBy w1 (Value.slice ro l.length rc).ownBlock) (g3 : (Value.slice ro l.length rc).ownBlock = some g ∨ g = (wr.alloc o).heap.size) :
    RwSt w s so cap C (l ++ [x]) (some ⟨g, 0, none⟩) cp2 w1 := by
  have hA : Wrote Nil wr (wr.alloc o) := (Wrote.refl _ _).alloc _
  have hW : Wrote (fun b => (Value.slice ro l.length rc).ownBlock = some b) (wr.alloc o) w1 := (Wrote.refl _ _).grown g2 fun b hb _ => hb
  have hl : (l ++ [x]).length = l.length + 1 := by simp
  have lb := blk_lt h.box
  have hs := hA.size
  refine ⟨by rw [hl, List.map_append]; exact g1, (hW.block _ (by omega) (fun e => h.far _ e rfl)).trans ((hA.block _ lb id).trans h.box), (h.wrote.nil hA).trans hW fun b hb e => absurd (h.out.lt b e).1 (by omega), fun b hb e => ?_⟩
  have hb' : g = b := by simpa [Value.ownBlock] using hb
  subst hb'
  rcases g3 with y | y
  · exact h.far _ y e
  · omega

set_option maxRecDepth 100000 in
set_option maxHeartbeats 2000000 in
theorem rf_row {w : World} {so : Option Addr} {cap : Nat} {s : PS} {since : Nat → Nat} (h : RfAt w so s since) (hN : s.n ≤ 1000) (C : Nat) (hC : C ≤ 1000) (t : Int) :
    Calls Try.prog 20 #[.agg #[.slice so s.n cap, .int .i64 (C : Int)], .int .i64 t] w (RowPost w (rowS s since t C)) := by
  obtain ⟨i0, hi, hz0, hz1, hz2⟩ := info_parts pinfo_int
  have H := Lib.hid h
  have h0 : RwSt w s so cap C [] none 0 (w.alloc (.cells #[.slice so s.n cap, .int .i64 (C : Int)] 30)) :=
    ⟨World.ownsRow_nil _ _ _ _, Go.Deep.blk_alloc_new _ _, (Wrote.refl _ _).alloc _, fun b hb => by simp [Value.ownBlock] at hb⟩
  clear h
  go_enter Try.func20, Try.ntmps20
  go_wp2
  generalize w.alloc (.cells #[.slice so s.n cap, .int .i64 (C : Int)] 30) = w0 at h0 ⊢
  go_loopw [6, 5] (fun i v wr => ∃ (σ : Nat) (ro : Option Addr) (rc : Nat), σ ≤ C ∧ i = .int .i64 σ ∧ v = .slice ro (rowS s since t σ).length rc ∧ RwSt w s so cap C (rowS s since t σ) ro rc wr) (fun i _ _ => C - (intOf i).toNat)
  case atStart => exact ⟨0, none, 0, Nat.zero_le _, rfl, rfl, h0⟩
  case round =>
    clear h0
    obtain ⟨σ, ro, rc, hσ, rfl, rfl, hS⟩ := hrel
    have d0 := blk_cell hS.box 0
    have d1 := (blk_cell hS.box 1).trans rfl
    by_cases hlt : σ < C
    · have HS := Lib.hid hS
      clear hS
      go_wp2
      clear d0 d1
      go_loopw [7, 5] (fun i v wr => ∃ (k : Nat) (ro : Option Addr) (rc : Nat), k ≤ s.n ∧ i = .int .i64 k ∧ v = .slice ro (rowS s since t σ ++ rowAt s since t σ k).length rc ∧ RwSt w s so cap C (rowS s since t σ ++ rowAt s since t σ k) ro rc wr) (fun i _ _ => s.n - (intOf i).toNat)
      case atStart => exact ⟨0, ro, rc, Nat.zero_le _, rfl, by rw [rowAt_zero, List.append_nil], by rw [rowAt_zero, List.append_nil]; exact HS.out⟩
      case round =>
        clear HS
        obtain ⟨k, ro, rc, hk, rfl, rfl, hS⟩ := hrel
        have d0 : wr.cell? ⟨w.heap.size, 0, none⟩ = some (.slice so s.n cap) := (blk_cell hS.box 0).trans rfl
        by_cases hkl : k < s.n
        · obtain ⟨b, o, rfl, hc⟩ := rf_at (H.out.after hS.wrote) (show 0 < s.n by omega)
          obtain ⟨y0, y1, y2⟩ := hc k hkl
          clear hc
          have hll : (rowS s since t σ ++ rowAt s since t σ k).length ≤ 1000000 := by
            have h1 := rowS_len s since t σ
            have h2 := rowAt_len s since t σ k
            have h3 : σ * s.n ≤ 1000 * 999 := by
              have h4 : σ ≤ 999 := by omega
              have := Nat.mul_le_mul h4 hN
              omega
            rw [List.length_append]
            omega
          have hk9 : k ≤ 1000 := by omega
          cases hr : isRow s since t σ k
          · have HE := Lib.hid (show RwSt w s (some ⟨b, o, none⟩) cap C (rowS s since t σ ++ rowAt s since t σ (k + 1)) ro rc wr by rw [rowAt_no hr]; exact hS)
            have HL := Lib.hid (show (rowS s since t σ ++ rowAt s since t σ k).length = (rowS s since t σ ++ rowAt s since t σ (k + 1)).length by rw [rowAt_no hr])
            have hway : ¬ since (k + 1) = σ ∨ (since (k + 1) = σ ∧ ¬ s.own (k + 1) = t) ∨ (since (k + 1) = σ ∧ s.own (k + 1) = t ∧ ¬ 0 ≤ t) := by
              unfold isRow at hr
              by_cases q1 : since (k + 1) = σ
              · by_cases q2 : s.own (k + 1) = t
                · by_cases q3 : 0 ≤ t
                  · rw [decide_eq_true q1, decide_eq_true q2, decide_eq_true q3] at hr
                    exact absurd hr (by decide)
                  · exact .inr (.inr ⟨q1, q2, q3⟩)
                · exact .inr (.inl ⟨q1, q2⟩)
              · exact .inl q1
            clear hS hr hll
            generalize since (k + 1) = S1 at y1 hway
            generalize s.own (k + 1) = O1 at y0 hway
            rcases hway with q1 | ⟨rfl, q2⟩ | ⟨rfl, rfl, q3⟩
            · have q1' : ¬ (S1 : Int) = (σ : Int) := by omega
              go_wp2
              go_roundw
              case rel => exact ⟨k + 1, ro, rc, by omega, by go_num, by first | rw [HL.out] | rw [← HL.out, List.length_append], HE.out⟩
              case measure => simp [intOf]; omega
            · go_wp2
              go_roundw
              case rel => exact ⟨k + 1, ro, rc, by omega, by go_num, by first | rw [HL.out] | rw [← HL.out, List.length_append], HE.out⟩
              case measure => simp [intOf]; omega
            · go_wp2
              go_roundw
              case rel => exact ⟨k + 1, ro, rc, by omega, by go_num, by first | rw [HL.out] | rw [← HL.out, List.length_append], HE.out⟩
              case measure => simp [intOf]; omega
          · have HR := Lib.hid (rowAt_yes hr)
            unfold isRow at hr
            simp only [Bool.and_eq_true, decide_eq_true_eq] at hr
            obtain ⟨⟨q1, q2⟩, q3⟩ := hr
            rw [q1] at y1
            rw [q2] at y0
            clear q1 q2
            obtain ⟨L, hL⟩ : ∃ L, L = rowS s since t σ ++ rowAt s since t σ k := ⟨_, rfl⟩
            rw [← hL] at hS hll ⊢
            have HL := Lib.hid hL
            have hw9 : w.heap.size ≤ wr.heap.size := hS.wrote.size
            have HS := Lib.hid hS
            have hml : L.length + 1 ≤ maxLen := by unfold maxLen; omega
            clear hS hL
            go_wp2_with (at_builtin; refine wpList_append_lies _ (by rfl) (.tmp 43) (.tmp 46) 44 (by rfl) w.heap.size 3 i0 (.int .i64 0) 1 8 Try.underlying44 hi hz0 hz1 hz2 rfl (by decide) (.slice ro L.length rc) L.length (L.map idv) (by rfl) (HS.out.out.alloc _) ⟨wr.heap.size, 0, none⟩ 1 1 [.int .i64 ((k : Int) + 1)] (by rfl) rfl (cell_one_new wr _ _) (by simp [Value.oneCell']) (by decide) hml (by omega) (by rw [Go.Deep.nblk_alloc]; omega) _ rfl ?_; intro g cp2 w5 g1 g2 g3 g4; have H5 := Lib.hid (HS.out.more (x := k + 1) (by simpa [idv] using g1) g2 g3); clear g1 g2 g3 g4)
            go_roundw
            case rel =>
              have e : rowS s since t σ ++ rowAt s since t σ (k + 1) = L ++ [k + 1] := by rw [HR.out, HL.out, List.append_assoc]
              refine ⟨k + 1, some ⟨g, 0, none⟩, cp2, by omega, by go_num, ?_, ?_⟩
              · rw [e]; simp
              · rw [e]; exact H5.out
            case measure => simp [intOf]; omega
        · obtain hkn : k = s.n := by omega
          have e : rowS s since t σ ++ rowAt s since t σ k = rowS s since t (σ + 1) := by rw [rowS_succ, hkn]
          rw [e] at hS ⊢
          have HS := Lib.hid hS
          clear hS e hkn
          go_wp2
          go_roundw
          case rel => exact ⟨σ + 1, ro, rc, by omega, by go_num, rfl, HS.out⟩
          case measure => simp [intOf]; omega
    · obtain rfl : σ = C := by omega
      have HS := Lib.hid hS
      clear hS
      go_wp2
      go_ret
      exact ⟨ro, rc, rfl, HS.out.out, HS.out.wrote⟩
end Go.Proofs.Ytjkheoiebabkhaa
