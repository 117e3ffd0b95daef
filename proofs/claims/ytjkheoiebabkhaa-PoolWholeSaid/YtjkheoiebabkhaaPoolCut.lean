/- The contract of the library's cut of one number out of a row. -/
import Derived.Test.YtjkheoiebabkhaaPoolAsk
import Derived.Lib.SlicesDelete
namespace Go.Proofs.Ytjkheoiebabkhaa
open Go.RowKit
set_option linter.unusedVariables false

theorem blk_setCells {b : Nat} {t : TypeId} : ∀ (vs : List Value) (o : Nat) (w : World) (cs : Array Value), w.heap[b]? = some (.cells cs t (0, 0)) → (w.setCells b o vs).heap[b]? = some (.cells (Go.Lib.lay cs o vs) t (0, 0))
  | [], _, _, _, h => h
  | v :: r, o, w, cs, h => blk_setCells r (o + 1) _ _ (blk_setCell h o v)
theorem wrote_setCells {b : Nat} : ∀ (vs : List Value) (o : Nat) (w : World), Wrote (One b) w (w.setCells b o vs)
  | [], _, w => Wrote.refl _ w
  | v :: r, o, w => ((Wrote.refl (One b) w).setCell ⟨b, o, none⟩ v fun _ => rfl).trans (wrote_setCells r (o + 1) _) fun _ _ x => x

theorem cut_take (cur : Array Value) (l : List Value) (i : Nat) (z : Value) (hl : cur.toList.take l.length = l) (hc : l.length ≤ cur.size) (hi : i < l.length) :
    (Go.Lib.lay (Go.Lib.lay cur i (l.drop (i + 1))) (l.length - 1) [z]).toList.take (l.length - 1) = l.eraseIdx i := by
  have hcur : ∀ j, j < l.length → cur[j]? = l[j]? := fun j hj => by
    rw [← Array.getElem?_toList, ← List.getElem?_take_of_lt hj, hl]
  apply List.ext_getElem?
  intro j
  by_cases hj : j < l.length - 1
  · rw [List.getElem?_take_of_lt hj, Array.getElem?_toList, Go.Lib.lay_get? _ _ _ _ (by rw [Go.Lib.lay_size]; simp; omega), if_neg (by simp; omega), Go.Lib.lay_get? _ _ _ _ (by simp; omega), List.getElem?_eraseIdx]
    simp only [List.length_drop]
    by_cases h : j < i
    · rw [if_neg (by omega), if_pos h, hcur j (by omega)]
    · rw [if_pos (by omega), if_neg h, List.getElem?_drop, show i + 1 + (j - i) = j + 1 by omega]
  · rw [List.getElem?_eq_none (by rw [List.length_take]; omega), List.getElem?_eq_none (by rw [List.length_eraseIdx_of_lt hi]; omega)]

theorem erase_map {α β : Type} (f : α → β) : ∀ (l : List α) (i : Nat), (l.map f).eraseIdx i = (l.eraseIdx i).map f
  | [], _ => rfl
  | _ :: _, 0 => rfl
  | x :: r, i + 1 => by simp only [List.map_cons, List.eraseIdx_cons_succ, erase_map f r i]

def CutPost (w : World) (v : Value) (l : List Nat) (e : Ending) (w' : World) : Prop :=
  ∃ v', e = .returned v' ∧ w'.ownsRow 0 3 1 v' l.length (l.map idv) ∧ v'.ownBlock = v.ownBlock ∧ Wrote (fun k => v.ownBlock = some k) w w'

theorem zv_int : ∀ w, (zeroValue 3).run Try.prog w = .ok (.int .i64 0) w := fun _ => by kernel_rfl

set_option maxHeartbeats 2000000 in
set_option maxRecDepth 100000 in
theorem po_cut {w : World} {v : Value} {l : List Nat} (h : w.ownsRow 0 3 1 v l.length (l.map idv)) (i : Nat) (hi : i < l.length) :
    Calls Try.prog 27 #[v, .int .i64 (i : Int), .int .i64 ((i : Int) + 1)] w (CutPost w v (l.eraseIdx i)) := by
  obtain ⟨i0, hi0, hz0, hz1, hz2⟩ := info_parts pinfo_int
  rcases h.2 with ⟨_, h0⟩ | ⟨g, cap, cur, rfl, _, hg, hnc, hcm, hcs, ht⟩
  · omega
  rw [Nat.mul_one] at hcs ht
  obtain ⟨L, hL⟩ : ∃ L, L = l.map idv := ⟨_, rfl⟩
  have hLl : L.length = l.length := by rw [hL]; simp
  obtain ⟨n, hn⟩ : ∃ n, n = l.length := ⟨_, rfl⟩
  rw [← hL] at ht
  have hcur : ∀ j, j < n → cur[j]? = L[j]? := fun j hj => by
    rw [← ht, List.getElem?_take_of_lt (by omega), Array.getElem?_toList]
  have hcap : cap ≤ 9223372036854775807 := by unfold maxLen at hcm; exact hcm
  -- the cells that are moved
  obtain ⟨news, hnews⟩ : ∃ news, news = L.drop (i + 1) := ⟨_, rfl⟩
  have hlen : news.length = n - (i + 1) := by rw [hnews, List.length_drop, hLl, hn]
  obtain ⟨A, hA, hsrc⟩ : ∃ A : Addr, (if cap = i + 1 then some (⟨g, 0, none⟩ : Addr) else some ⟨g, i + 1, none⟩) = some A ∧ Hid (∀ t u, news[t]? = some u → w.drew.cell? (A.add t) = some u) := by
    by_cases hc : cap = i + 1
    · refine ⟨⟨g, 0, none⟩, by simp [hc], fun t u hu => ?_⟩
      have h0 : news.length = 0 := by rw [hlen]; omega
      rw [List.length_eq_zero_iff.1 h0] at hu
      simp at hu
    · refine ⟨⟨g, i + 1, none⟩, by simp [hc], fun t u hu => ?_⟩
      rw [hnews, List.getElem?_drop] at hu
      have htl : i + 1 + t < n := by have := (List.getElem?_eq_some_iff.1 hu).1; omega
      rw [Addr.add_lit]
      show w.cell? _ = _
      rw [blk_cell hg, hcur _ htl, hu]
  have s1 : Hid (news.length = (n - (i + 1)) * 1) := by rw [Nat.mul_one]; exact hlen
  have s2 : Hid (∀ u ∈ news, u.oneCell' = true) := by
    intro u hu
    rw [hnews, hL] at hu
    obtain ⟨x, _, rfl⟩ := List.mem_map.1 (List.mem_of_mem_drop hu)
    rfl
  have s3 : Hid (∀ t, t < news.length → (w.drew.cell? ⟨g, 0 + i * 1 + t, none⟩).isSome = true ∧ w.drew.frozen? ⟨g, 0 + i * 1 + t, none⟩ = false) := by
    intro t ht'
    rw [hlen] at ht'
    rw [Nat.mul_one, Nat.zero_add]
    refine ⟨?_, blk_frozen hg _⟩
    show (w.cell? _).isSome = true
    rw [blk_cell hg, hcur _ (by omega), List.getElem?_eq_getElem (by omega)]
    rfl
  obtain ⟨W1, hW1⟩ : ∃ W1, W1 = w.drew.setCells g (0 + i * 1) news := ⟨_, rfl⟩
  have hg1 : W1.heap[g]? = some (.cells (Go.Lib.lay cur i news) 3 (0, 0)) := by
    rw [hW1, Nat.mul_one, Nat.zero_add]
    exact blk_setCells news i w.drew cur hg
  have hWr1 : Wrote (One g) w W1 := by
    rw [hW1]
    exact ((Wrote.refl (One g) w).drew).trans (wrote_setCells _ _ _) fun _ _ x => x
  have hsz1 : (Go.Lib.lay cur i news).size = cap := by rw [Go.Lib.lay_size, hcs]
  have hcl : ∀ ty, (Builtin.clear_ #[44] ty #[.slice (some ⟨g, i + (n - (i + 1)), none⟩) (n - (i + (n - (i + 1)))) (cap - (i + (n - (i + 1))))]).run Try.prog W1 = .ok (.tuple #[]) (W1.setCells g (n - 1) (List.replicate 1 (.int .i64 0))) :=
    fun ty => by
      rw [show i + (n - (i + 1)) = n - 1 by omega, show n - (n - 1) = 1 by omega]
      exact Go.Lib.run_clear_slice W1 44 3 ty _ Try.underlying44 zv_int rfl rfl g (n - 1) 1 _ (by omega) (fun t ht' => by
      rw [blk_cell hg1, Array.getElem?_eq_getElem (by rw [hsz1]; omega)]; rfl) (fun t _ => blk_frozen hg1 _)
  have hend : CutPost w (.slice (some ⟨g, 0, none⟩) n cap) (l.eraseIdx i) (.returned (.slice (some ⟨g, 0, none⟩) (n - 1) cap)) (W1.setCells g (n - 1) (List.replicate 1 (.int .i64 0))) := by
    have hel : (l.eraseIdx i).length = n - 1 := by rw [List.length_eraseIdx_of_lt hi, hn]
    refine ⟨_, rfl, ⟨by simp, .inr ⟨g, cap, _, by rw [hel], Nat.zero_le _, blk_setCells _ _ _ _ hg1, by omega, hcm, by rw [Go.Lib.lay_size, hsz1, Nat.mul_one], ?_⟩⟩, rfl, (hWr1.trans (wrote_setCells _ _ _) fun _ _ x => x).mono fun b _ e => by cases e; rfl⟩
    have := cut_take cur L i (.int .i64 0) (by rw [hLl]; exact ht) (by rw [hLl, hcs]; exact hnc) (by omega)
    rw [hel, Nat.mul_one, hnews, hn, ← hLl, List.replicate_one, this, hL, erase_map]
  have HE := Lib.hid hend
  have hW : Hid (W1 = w.drew.setCells g (0 + i * 1) news) := hW1
  have hic : i ≤ cap := by omega
  have hjc : i + 1 ≤ cap := by omega
  have hin : i < n := by omega
  have hnc' : n ≤ cap := by omega
  have hne : ¬ i = i + 1 := by omega
  rw [← hn]
  clear hW1 hg1 hWr1 hsz1 hend hcur hnews hlen hg hcs ht hLl hL h hi hnc hcm
  have hN := Lib.hid hn
  clear hn
  have hp1 : (i : Int) + 1 ≤ (n : Int) := by omega
  have hp2 : ((i : Int) + 1).toNat = i + 1 := by omega
  have hp3 : (0 : Int) ≤ (i : Int) + 1 := by omega
  have hp4 : ¬ (i : Int) = (i : Int) + 1 := by omega
  go_enter Try.func27, Try.ntmps27
  go_wp2_with fail
  go_region_law (refine step_append_room rfl (.tmp 22) (.tmp 25) 44 rfl 3 i0 1 Try.underlying44 hi0 hz1 g 0 i cap (by simp [Act.eval, Act.put]) A (n - (i + 1)) (cap - (i + 1)) news (by simp [Act.eval, Act.put]) s1.out hsrc.out s2.out (by omega) s3.out ?_; rw [← hW.out])
  go_wp2
  go_ret
  rw [show i + (n - (i + 1)) = n - 1 by omega]
  exact HE.out
end Go.Proofs.Ytjkheoiebabkhaa
