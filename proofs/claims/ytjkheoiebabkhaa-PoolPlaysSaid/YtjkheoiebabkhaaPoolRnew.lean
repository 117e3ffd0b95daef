/- The contract of the reference's New. -/
import Derived.Test.YtjkheoiebabkhaaPoolRgive
namespace Go.Proofs.Ytjkheoiebabkhaa
open Go.RowKit
set_option linter.unusedVariables false

/-- since when each node of a new pool is its owner's -/
def since0 (id : Nat) : Nat := id - 1
/-- a pool of the reference in the making -/
structure NRf (w : World) (T e m : Nat) (so : Option Addr) (cp : Nat) (wr : World) : Prop where
  own : wr.ownsRow w.heap.size 57 3 (.slice so m cp) m ((ids m).flatMap (refC (newS T e) since0))
  p : wr.heap[w.heap.size + 1]? = some (.cells #[.slice so m cp, .int .i64 0] 30 (0, 0))
  r : wr.heap[w.heap.size]? = some (.cells #[.slice none 0 0, .int .i64 0] 30 (0, 0))
  wrote : Wrote Nil w wr
  far : ∀ b, (Value.slice so m cp).ownBlock = some b → b ≠ w.heap.size ∧ b ≠ w.heap.size + 1
theorem NRf.more {w wr w5 : World} {T e m : Nat} {so : Option Addr} {cp g cp2 : Nat} (h : NRf w T e m so cp wr) {A : World} (hA : Wrote Nil wr A)
    (g1 : w5.ownsRow w.heap.size 57 3 (.slice (some ⟨g, 0, none⟩) (m + 1) cp2) (m + 1) ((ids m).flatMap (refC (newS T e) since0) ++ [.int .i64 ((m / e : Nat) : Int), .int .i64 (m : Int), .bool false])) (g2 : A.grownBy w5 (Value.slice so m cp).ownBlock) (g3 : (Value.slice so m cp).ownBlock = some g ∨ g = A.heap.size) :
    w5.cell? ⟨w.heap.size + 1, 0, none⟩ = some (.slice so m cp) ∧ w5.frozen? ⟨w.heap.size + 1, 0, none⟩ = false ∧ NRf w T e (m + 1) (some ⟨g, 0, none⟩) cp2 (w5.setCell ⟨w.heap.size + 1, 0, none⟩ (.slice (some ⟨g, 0, none⟩) (m + 1) cp2)) := by
  have hW : Wrote (fun b => (Value.slice so m cp).ownBlock = some b) A w5 := (Wrote.refl _ _).grown g2 fun b hb _ => hb
  have lp := blk_lt h.p
  have lr := blk_lt h.r
  have hs := hA.size
  have hs2 := h.wrote.size
  have p5 := (hW.block _ (by omega) (fun e => (h.far _ e).2 rfl)).trans ((hA.block _ lp id).trans h.p)
  have r5 := (hW.block _ (by omega) (fun e => (h.far _ e).1 rfl)).trans ((hA.block _ lr id).trans h.r)
  have hB : Wrote (One (w.heap.size + 1)) w5 (w5.setCell ⟨w.heap.size + 1, 0, none⟩ (.slice (some ⟨g, 0, none⟩) (m + 1) cp2)) := (Wrote.refl _ _).setCell ⟨w.heap.size + 1, 0, none⟩ _ fun _ => rfl
  have hg : g ≠ w.heap.size ∧ g ≠ w.heap.size + 1 := by
    rcases g3 with x | x
    · exact h.far g x
    · exact ⟨by omega, by omega⟩
  refine ⟨(blk_cell p5 0).trans rfl, blk_frozen p5 0, ⟨?_, ?_, (hB.block _ (blk_lt r5) (fun e => by have e' : w.heap.size = w.heap.size + 1 := e; omega)).trans r5, ?_, fun b hb => ?_⟩⟩
  · refine ownsRow_keep (w := w5) ?_ fun b hb => hB.block b (g1.lt b hb).2 fun e => ?_
    · rw [ids_succ, List.flatMap_append, show [m + 1].flatMap (refC (newS T e) since0) = [.int .i64 ((m / e : Nat) : Int), .int .i64 (m : Int), .bool false] from by simp [refC, since0, newS, mkS]]
      exact g1
    · have hb' : g = b := by simpa [Value.ownBlock] using hb
      exact hg.2 (hb'.trans e)
  · rw [blk_setCell p5]
    rfl
  · exact ((h.wrote.nil hA).trans hW fun b hb e => absurd (h.own.lt b e).1 (by omega)).one hB (by omega)
  · have hb' : g = b := by simpa [Value.ownBlock] using hb
    subst hb'
    exact hg

def RnewPost (w : World) (T e : Nat) (en : Ending) (w' : World) : Prop := ∃ so cap, en = .returned (.agg #[.slice so (T * e) cap, .int .i64 ((T : Int) * (e : Int))]) ∧ RfAt w' so (newS T e) since0 ∧ Wrote Nil w w' ∧ ∀ b, so = some b → w.heap.size ≤ b.block

theorem rnode_one {m e : Nat} : ∀ u ∈ [Value.int .i64 ((m / e : Nat) : Int), .int .i64 (m : Int), .bool false], u.oneCell' = true := by
  intro u hu
  simp only [List.mem_cons, List.not_mem_nil, or_false] at hu
  rcases hu with rfl | rfl | rfl <;> rfl
theorem rnode_news (w : World) (a b : Int) (t : TypeId) : ∀ (j : Nat) (u : Value), [Value.int .i64 a, .int .i64 b, .bool false][j]? = some u → (w.alloc (.cells #[.int .i64 a, .int .i64 b, .bool false] t)).drew.cell? ((⟨w.heap.size, 0, none⟩ : Addr).add j) = some u := by
  intro j u hu
  show (w.alloc (.cells #[.int .i64 a, .int .i64 b, .bool false] t)).cell? _ = _
  rw [Go.Addr.add_lit, Nat.zero_add, blk_cell (Go.Deep.blk_alloc_new w _)]
  have hj : j < 3 := (List.getElem?_eq_some_iff.1 hu).1
  have : j = 0 ∨ j = 1 ∨ j = 2 := by omega
  rcases this with rfl | rfl | rfl <;> exact hu

set_option maxRecDepth 100000 in
set_option maxHeartbeats 4000000 in
theorem rf_new (T e : Nat) (t1 : 1 ≤ T) (t2 : T ≤ 64) (e1 : 1 ≤ e) (e2 : e ≤ 8) (w : World) :
    Calls Try.prog 8 #[.int .i64 (T : Int), .int .i64 (e : Int)] w (RnewPost w T e) := by
  obtain ⟨i0, hi, hz0, hz1, hz2⟩ := info_parts pinfo_rnode
  have hm : T * e ≤ 64 * 8 := Nat.mul_le_mul t2 e2
  obtain ⟨M, hM⟩ : ∃ M, M = T * e := ⟨_, rfl⟩
  have hTe : (T : Int) * (e : Int) = (M : Int) := by rw [hM, Int.natCast_mul]
  have hM9 : M ≤ 512 := by omega
  have HM := Lib.hid hM
  have h0 : NRf w T e 0 none 0 ((w.alloc (.cells #[.slice none 0 0, .int .i64 0] 30)).alloc (.cells #[.slice none 0 0, .int .i64 0] 30)) := by
    have s1 : (w.alloc (.cells #[.slice none 0 0, .int .i64 0] 30)).heap.size = w.heap.size + 1 := Go.Deep.nblk_alloc _ _
    refine ⟨World.ownsRow_nil _ _ _ _, ?_, ?_, ((Wrote.refl Nil w).alloc _).alloc _, fun b hb => by simp [Value.ownBlock] at hb⟩
    · rw [← s1, Go.Deep.blk_alloc_new]
    · rw [Go.Deep.blk_alloc_lt _ _ _ (by omega), Go.Deep.blk_alloc_new]
  clear hm hM
  go_enter Try.func8, Try.ntmps8
  go_wp2
  generalize (w.alloc (.cells #[.slice none 0 0, .int .i64 0] 30)).alloc (.cells #[.slice none 0 0, .int .i64 0] 30) = w0 at h0 ⊢
  have HTe := Lib.hid hTe
  clear hTe
  go_loopw [6] (fun i wr => ∃ (m : Nat) (so : Option Addr) (cp : Nat), m ≤ M ∧ i = .int .i64 m ∧ NRf w T e m so cp wr) (fun i _ => M - (intOf i).toNat)
  case atStart => exact ⟨0, none, 0, Nat.zero_le _, rfl, h0⟩
  case round =>
    clear h0
    obtain ⟨m, so, cp, hmM, rfl, hS⟩ := hrel
    have hTe := HTe.out
    by_cases hlt : m < M
    · have hp0 : (0 : Int) ≤ (T : Int) * (e : Int) := by rw [hTe]; omega
      have hp1 : (T : Int) * (e : Int) ≤ 512 := by rw [hTe]; omega
      have hltI : (m : Int) < (M : Int) := by omega
      have d0 : wr.cell? ⟨w.heap.size + 1, 0, none⟩ = some (.slice so m cp) := (blk_cell hS.p 0).trans rfl
      have f0 := blk_frozen hS.p 0
      have lp := blk_lt hS.p
      have HS := Lib.hid hS
      clear hS
      go_upto_region 5 with fail
      clear hTe hp0 hp1
      have he0 : ¬ e = 0 := by omega
      obtain ⟨Q, hQ⟩ : ∃ Q : Int, Q = ((m / e : Nat) : Int) := ⟨_, rfl⟩
      have hq : IntKind.i64.wrap ((m : Int) / (e : Int)) = Q := by
        have h1 : ((m / e : Nat) : Int) = (m : Int) / (e : Int) := rfl
        have h2 : m / e ≤ m := Nat.div_le_self _ _
        rw [IntKind.wrap_i64, hQ, ← h1]
        generalize m / e = q at h2 ⊢
        omega
      have HQ := Lib.hid hQ
      clear hQ
      have hA : Wrote Nil wr (wr.alloc (.cells #[.int .i64 Q, .int .i64 (m : Int), .bool false] 57)).drew := ((Wrote.refl Nil wr).alloc _).drew
      have hKE : ∀ g cp2 w5, w5.ownsRow w.heap.size 57 3 (.slice (some ⟨g, 0, none⟩) (m + 1) cp2) (m + 1) ((ids m).flatMap (refC (newS T e) since0) ++ [.int .i64 Q, .int .i64 (m : Int), .bool false]) → (wr.alloc (.cells #[.int .i64 Q, .int .i64 (m : Int), .bool false] 57)).drew.grownBy w5 (Value.slice so m cp).ownBlock →
          ((Value.slice so m cp).ownBlock = some g ∨ g = (wr.alloc (.cells #[.int .i64 Q, .int .i64 (m : Int), .bool false] 57)).drew.heap.size) →
          w5.cell? ⟨w.heap.size + 1, 0, none⟩ = some (.slice so m cp) ∧ w5.frozen? ⟨w.heap.size + 1, 0, none⟩ = false ∧ NRf w T e (m + 1) (some ⟨g, 0, none⟩) cp2 (w5.setCell ⟨w.heap.size + 1, 0, none⟩ (.slice (some ⟨g, 0, none⟩) (m + 1) cp2)) := fun g cp2 w5 g1 g2 g3 => HS.out.more hA (by rw [← HQ.out]; exact g1) g2 g3
      have HK := Lib.hid hKE
      have HO := Lib.hid (show (wr.alloc (.cells #[.int .i64 Q, .int .i64 (m : Int), .bool false] 57)).drew.ownsRow w.heap.size 57 3 (.slice so m cp) m ((ids m).flatMap (refC (newS T e) since0)) from HS.out.own.alloc _)
      have H1 := Lib.hid (show ∀ u ∈ [Value.int .i64 Q, .int .i64 (m : Int), .bool false], u.oneCell' = true by rw [HQ.out]; exact rnode_one)
      have E1 := Lib.hid (show (wr.alloc (.cells #[.int .i64 Q, .int .i64 (m : Int), .bool false] 57)).cell? ⟨w.heap.size + 1, 0, none⟩ = some (.slice so m cp) from hA.old d0)
      have hml : m + 1 ≤ maxLen := by unfold maxLen; omega
      have hsz : w.heap.size ≤ (wr.alloc (.cells #[.int .i64 Q, .int .i64 (m : Int), .bool false] 57)).drew.heap.size := Nat.le_trans HS.out.wrote.size hA.size
      have HZ := Lib.hid hsz
      clear hA hKE hsz
      refine wp_region_held_drew (S := fun _ => True) (by kernel_rfl) trivial (fun hHeld => ?_)
      refine wpAnyH_take (i := 0) (v := ?v1) rfl (by kernel_rfl) (by kernel_rfl) (by kernel_rfl) (fun _ _ _ h => h) (Or.inl ⟨by rfl, ?hy1⟩) (by assumption) ?rest1
      case hy1 => intro w hSw; (try dsimp only at hSw); go_simp; try with_reducible rfl
      (try simp only [Act.put, List.setIfInBounds_toArray])
      refine wpAnyH_take (i := 2) (v := ?v2) rfl (by kernel_rfl) (by kernel_rfl) (by kernel_rfl) (fun _ _ _ h => h) (Or.inl ⟨by rfl, ?hy2⟩) (by assumption) ?rest2
      case hy2 => intro w hSw; (try dsimp only at hSw); go_simp; try with_reducible rfl
      (try simp only [Act.put])
      refine wpAnyH_take (i := 3) (v := ?v3) rfl (by kernel_rfl) (by kernel_rfl) (by kernel_rfl) (fun _ _ _ h => h) (Or.inl ⟨by rfl, ?hy3⟩) (by assumption) ?rest3
      case hy3 => intro w hSw; (try dsimp only at hSw); go_simp; try with_reducible rfl
      (try simp only [Act.put])
      refine wpAnyH_take (i := 4) (v := ?v4) rfl (by kernel_rfl) (by kernel_rfl) (by kernel_rfl) (fun _ _ _ h => h) (Or.inl ⟨by rfl, ?hy4⟩) (by assumption) ?rest4
      case hy4 => intro w hSw; (try dsimp only at hSw); go_simp; try with_reducible rfl
      (try simp only [Act.put])
      refine wpAnyH_take (i := 5) (v := ?v5) rfl (by kernel_rfl) (by kernel_rfl) (by kernel_rfl) (fun _ _ _ h => h) (Or.inl ⟨by rfl, ?hy5⟩) (by assumption) ?rest5
      case hy5 => intro w hSw; (try dsimp only at hSw); go_simp; try with_reducible rfl
      (try simp only [Act.put])
      refine wpAnyH_take (i := 6) (v := ?v6) rfl (by kernel_rfl) (by kernel_rfl) (by kernel_rfl) (fun _ _ _ h => h) (Or.inl ⟨by rfl, ?hy6⟩) (by assumption) ?rest6
      case hy6 => intro w hSw; (try dsimp only at hSw); go_simp; try with_reducible rfl
      (try simp only [Act.put])
      refine wpAnyH_ready (rs := [1, 7]) (by kernel_rfl) (by simp) ?_
      refine AllReadyH.cons rfl (fun K hK => ?_) (AllReadyH.cons rfl (fun K hK => ?_) (AllReadyH.nil))
      · skip
        go_simp
        refine hK.out _ _ trivial (fun hHeld2 => ?_)
        clear hHeld K hK
        have hHeld := hHeld2
        clear hHeld2
        (try simp only [Act.put, List.setIfInBounds_toArray, List.set_cons_zero, List.set_cons_succ])
        refine wpAnyH_ready (rs := [7]) (by kernel_rfl) (by simp) ?_
        refine AllReadyH.cons rfl (fun K hK => ?_) (AllReadyH.nil)
        go_simp
        refine hK.out _ _ trivial (fun hHeld2 => ?_)
        clear hHeld K hK
        have hHeld := hHeld2
        clear hHeld2
        (try simp only [Act.put, List.setIfInBounds_toArray, List.set_cons_zero, List.set_cons_succ])
        refine wpAnyH_ready (rs := [8]) (by kernel_rfl) (by simp) ?_
        refine AllReadyH.cons rfl (fun K hK => ?_) (AllReadyH.nil)
        refine step_append_lies _ (by rfl) _ _ 28 (by rfl) w.heap.size 57 i0 (.agg #[.int .i64 0, .int .i64 0, .bool false]) 3 24 Try.underlying28 hi hz0 hz1 hz2 rfl (by decide) (.slice so m cp) m ((ids m).flatMap (refC (newS T e) since0)) (by simp [Act.eval]) HO.out ⟨wr.heap.size, 0, none⟩ 1 1 [.int .i64 Q, .int .i64 (m : Int), .bool false] (by simp [Act.eval]) rfl (rnode_news wr Q (m : Int) _) H1.out (by decide) hml (by omega) HZ.out _ rfl ?_
        intro g cp2 w5 g1 g2 g3 g4
        obtain ⟨d1, d2, hE⟩ := HK.out g cp2 w5 g1 g2 g3
        have HE := Lib.hid hE
        clear g1 g2 g3 g4 hE
        refine hK.out _ _ trivial (fun hHeld2 => ?_)
        clear hHeld K hK
        have hHeld := hHeld2
        clear hHeld2
        (try simp only [Act.put, List.setIfInBounds_toArray])
        refine wpAnyH_take (i := 9) (v := ?v7) rfl (by kernel_rfl) (by kernel_rfl) (by kernel_rfl) (fun _ _ _ h => h) (Or.inl ⟨by rfl, ?hy7⟩) (by assumption) ?rest7
        case hy7 => intro w hSw; (try dsimp only at hSw); go_simp; try with_reducible rfl
        (try simp only [Act.put])
        refine wpAnyH_ready (rs := [10]) (by kernel_rfl) (by simp) ?_
        refine AllReadyH.cons rfl (fun K hK => ?_) (AllReadyH.nil)
        go_simp
        refine hK.out _ _ trivial (fun hHeld2 => ?_)
        clear hHeld K hK
        have hHeld := hHeld2
        clear hHeld2
        (try simp only [Act.put, List.setIfInBounds_toArray, List.set_cons_zero, List.set_cons_succ])
        refine wpAnyH_done (by kernel_rfl) ?_ _
        generalize w5.setCell ⟨w.heap.size + 1, 0, none⟩ (.slice (some ⟨g, 0, none⟩) (m + 1) cp2) = W8 at HE ⊢
        clear d1 d2 hHeld d0 f0
        go_wp2
        go_roundw
        case rel => exact ⟨m + 1, some ⟨g, 0, none⟩, cp2, by omega, by go_num, HE.out⟩
        case measure => simp [intOf]; omega
      · skip
        go_simp
        refine hK.out _ _ trivial (fun hHeld2 => ?_)
        clear hHeld K hK
        have hHeld := hHeld2
        clear hHeld2
        (try simp only [Act.put, List.setIfInBounds_toArray, List.set_cons_zero, List.set_cons_succ])
        have e1 := E1.out
        refine wpAnyH_ready (rs := [1]) (by kernel_rfl) (by simp) ?_
        refine AllReadyH.cons rfl (fun K hK => ?_) (AllReadyH.nil)
        go_simp
        refine hK.out _ _ trivial (fun hHeld2 => ?_)
        clear hHeld K hK
        have hHeld := hHeld2
        clear hHeld2
        (try simp only [Act.put, List.setIfInBounds_toArray, List.set_cons_zero, List.set_cons_succ])
        clear e1
        refine wpAnyH_ready (rs := [8]) (by kernel_rfl) (by simp) ?_
        refine AllReadyH.cons rfl (fun K hK => ?_) (AllReadyH.nil)
        refine step_append_lies _ (by rfl) _ _ 28 (by rfl) w.heap.size 57 i0 (.agg #[.int .i64 0, .int .i64 0, .bool false]) 3 24 Try.underlying28 hi hz0 hz1 hz2 rfl (by decide) (.slice so m cp) m ((ids m).flatMap (refC (newS T e) since0)) (by simp [Act.eval]) HO.out ⟨wr.heap.size, 0, none⟩ 1 1 [.int .i64 Q, .int .i64 (m : Int), .bool false] (by simp [Act.eval]) rfl (rnode_news wr Q (m : Int) _) H1.out (by decide) hml (by omega) HZ.out _ rfl ?_
        intro g cp2 w5 g1 g2 g3 g4
        obtain ⟨d1, d2, hE⟩ := HK.out g cp2 w5 g1 g2 g3
        have HE := Lib.hid hE
        clear g1 g2 g3 g4 hE
        refine hK.out _ _ trivial (fun hHeld2 => ?_)
        clear hHeld K hK
        have hHeld := hHeld2
        clear hHeld2
        (try simp only [Act.put, List.setIfInBounds_toArray])
        refine wpAnyH_take (i := 9) (v := ?v8) rfl (by kernel_rfl) (by kernel_rfl) (by kernel_rfl) (fun _ _ _ h => h) (Or.inl ⟨by rfl, ?hy8⟩) (by assumption) ?rest8
        case hy8 => intro w hSw; (try dsimp only at hSw); go_simp; try with_reducible rfl
        (try simp only [Act.put])
        refine wpAnyH_ready (rs := [10]) (by kernel_rfl) (by simp) ?_
        refine AllReadyH.cons rfl (fun K hK => ?_) (AllReadyH.nil)
        go_simp
        refine hK.out _ _ trivial (fun hHeld2 => ?_)
        clear hHeld K hK
        have hHeld := hHeld2
        clear hHeld2
        (try simp only [Act.put, List.setIfInBounds_toArray, List.set_cons_zero, List.set_cons_succ])
        refine wpAnyH_done (by kernel_rfl) ?_ _
        generalize w5.setCell ⟨w.heap.size + 1, 0, none⟩ (.slice (some ⟨g, 0, none⟩) (m + 1) cp2) = W8 at HE ⊢
        clear d1 d2 hHeld d0 f0
        go_wp2
        go_roundw
        case rel => exact ⟨m + 1, some ⟨g, 0, none⟩, cp2, by omega, by go_num, HE.out⟩
        case measure => simp [intOf]; omega
    · obtain rfl : m = M := by omega
      have hp0 : (0 : Int) ≤ (T : Int) * (e : Int) := by rw [hTe]; omega
      have hp1 : (T : Int) * (e : Int) ≤ 512 := by rw [hTe]; omega
      have hltI : ¬ (m : Int) < (m : Int) := by omega
      have d0 : wr.cell? ⟨w.heap.size + 1, 0, none⟩ = some (.slice so m cp) := (blk_cell hS.p 0).trans rfl
      have d1 : wr.cell? ⟨w.heap.size + 1, 1, none⟩ = some (.int .i64 0) := (blk_cell hS.p 1).trans rfl
      have f1 := blk_frozen hS.p 1
      have HS := Lib.hid hS
      clear hS
      go_upto_region 7 with fail
      obtain ⟨V, hV⟩ : ∃ V, V = wr.setCell ⟨w.heap.size + 1, 1, none⟩ (.int .i64 (m : Int)) := ⟨_, rfl⟩
      have bV : V.heap[w.heap.size + 1]? = some (.cells #[.slice so m cp, .int .i64 (m : Int)] 30 (0, 0)) := by
        rw [hV, blk_setCell HS.out.p]
        rfl
      have hWV : Wrote (One (w.heap.size + 1)) wr V := by rw [hV]; exact (Wrote.refl _ _).setCell ⟨w.heap.size + 1, 1, none⟩ _ fun _ => rfl
      have rV := (hWV.block _ (blk_lt HS.out.r) (fun e => by have e' : w.heap.size = w.heap.size + 1 := e; omega)).trans HS.out.r
      rw [← hV]
      clear hV d0 d1 f1
      have q0 := (blk_cell bV 0).trans rfl
      have q1 := (blk_cell bV 1).trans rfl
      have r0 := (blk_cell rV 0).trans rfl
      have r1 := (blk_cell rV 1).trans rfl
      have f0 := blk_frozen rV 0
      have f1 := blk_frozen rV 1
      have HQ := Lib.hid (And.intro rV hWV)
      clear rV hWV bV hTe hp0 hp1
      go_wp2
      (try simp only [Exit.inBlock, Exit.then])
      obtain ⟨W5, hW5⟩ : ∃ W5, W5 = (V.setCell ⟨w.heap.size, 0, none⟩ (.slice so m cp)).setCell ⟨w.heap.size, 1, none⟩ (.int .i64 (m : Int)) := ⟨_, rfl⟩
      obtain ⟨p2, p3, p4⟩ := ret_end HQ.out.1 hW5
      rw [← hW5]
      clear hW5 q0 q1 r0 r1 f0 f1
      have hfin : RnewPost w T e (.returned (.agg #[.slice so m cp, .int .i64 (m : Int)])) W5 := by
        have hm := HM.out
        have hown := HS.out.own
        have hfar := HS.out.far
        obtain ⟨sa, cap', e1, _, hr, hb⟩ := own_recs (refC_len (newS T e) since0) hown (by decide)
        simp only [Value.slice.injEq] at e1
        rw [← e1.1] at hr hb
        have hb1 : ∀ b, so = some b → b.block ≠ w.heap.size ∧ b.block ≠ w.heap.size + 1 := fun b hb' => hfar b.block (by rw [hb']; rfl)
        refine ⟨so, cp, by rw [HTe.out, hm], ?_, (HS.out.wrote.one HQ.out.2 (by omega)).one p4 (Nat.le_refl _), fun b hb' => (hb b hb').1⟩
        have h1 := (hr.wrote HQ.out.2 fun b hb' e => (hb1 b hb').2 e).wrote p4 fun b hb' e => (hb1 b hb').1 e
        rw [hm] at h1
        exact h1
      refine bodyPost_ret (v := .agg #[.slice so m cp, .int .i64 (m : Int)]) ?_ rfl hfin
      rw [results_cell1 rfl]
      go_simp
end Go.Proofs.Ytjkheoiebabkhaa
