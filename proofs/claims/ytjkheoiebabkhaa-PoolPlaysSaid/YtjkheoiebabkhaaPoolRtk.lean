/- The contracts of the reference's Take and Give. -/
import Derived.Test.YtjkheoiebabkhaaPoolRdo
namespace Go.Proofs.Ytjkheoiebabkhaa
open Go.RowKit
set_option linter.unusedVariables false

/-! ### Take -/
/-- within the search of Take -/
structure TkSt (w : World) (so : Option Addr) (n cap C : Nat) (l : List Nat) (ro : Option Addr) (rc : Nat) (wr : World) : Prop where
  m0 : wr.heap[w.heap.size]? = some (.cells #[.slice so n cap, .int .i64 (C : Int)] 30 (0, 0))
  m1 : wr.heap[w.heap.size + 1]? = some (.cells #[.slice none 0 0, .int .i64 0] 30 (0, 0))
  row : wr.ownsRow 0 3 1 (.slice ro l.length rc) l.length (l.map idv)
  wrote : Wrote Nil w wr
theorem TkSt.after {w wr wr' : World} {so : Option Addr} {n cap C : Nat} {l : List Nat} {ro : Option Addr} {rc : Nat} (h : TkSt w so n cap C l ro rc wr) (k : Wrote Nil wr wr') : TkSt w so n cap C l ro rc wr' :=
  ⟨(k.block _ (blk_lt h.m0) id).trans h.m0, (k.block _ (blk_lt h.m1) id).trans h.m1, ownsRow_keep h.row fun b hb => k.block b (h.row.lt b hb).2 id, h.wrote.nil k⟩
def TkRow (w : World) (so : Option Addr) (n cap C : Nat) (l : List Nat) (e : Ending) (w' : World) : Prop := ∃ ro rc, e = .returned (.slice ro l.length rc) ∧ TkSt w so n cap C l ro rc w'
theorem tk_row {w : World} {so : Option Addr} {cap : Nat} {s : PS} {since : Nat → Nat} (h : RfAt w so s since) (hN : s.n ≤ 1000) (C : Nat) (hC : C ≤ 1000) (t : Int) {l : List Nat} (hl : rowS s since t C = l) :
    Calls Try.prog 20 #[.agg #[.slice so s.n cap, .int .i64 (C : Int)], .int .i64 t] ((w.alloc (.cells #[.slice so s.n cap, .int .i64 (C : Int)] 30)).alloc (.cells #[.slice none 0 0, .int .i64 0] 30)) (TkRow w so s.n cap C l) := by
  have hA : Wrote Nil w ((w.alloc (.cells #[.slice so s.n cap, .int .i64 (C : Int)] 30)).alloc (.cells #[.slice none 0 0, .int .i64 0] 30)) := ((Wrote.refl Nil w).alloc _).alloc _
  have s1 : (w.alloc (.cells #[.slice so s.n cap, .int .i64 (C : Int)] 30)).heap.size = w.heap.size + 1 := Go.Deep.nblk_alloc _ _
  have s2 : ((w.alloc (.cells #[.slice so s.n cap, .int .i64 (C : Int)] 30)).alloc (.cells #[.slice none 0 0, .int .i64 0] 30)).heap.size = w.heap.size + 2 := by rw [Go.Deep.nblk_alloc, s1]
  have c := rf_row (cap := cap) (h.after hA) hN C hC t
  rw [hl] at c
  refine c.mono ?_
  rintro e w3 ⟨ro, rc, rfl, hown, hW⟩
  refine ⟨ro, rc, rfl, ⟨(hW.block _ (by omega) id).trans ?_, (hW.block _ (by omega) id).trans ?_, ownsRow_base hown (Nat.zero_le _), hA.nil hW⟩⟩
  · rw [Go.Deep.blk_alloc_lt _ _ _ (by omega), Go.Deep.blk_alloc_new]
  · rw [← s1, Go.Deep.blk_alloc_new]

def pickL (s : PS) (l : List Nat) : Option Nat := l.find? fun id => !outI s (id : Int)

set_option maxRecDepth 100000 in
set_option maxHeartbeats 2000000 in
theorem rf_take_no {w : World} {so : Option Addr} {cap : Nat} {s : PS} {since : Nat → Nat} (h : RfAt w so s since) (hN : s.n ≤ 1000) (C : Nat) (hC : C ≤ 1000) (t : Int) {l : List Nat} (hl : rowS s since t C = l) (hm : ∀ x ∈ l, 1 ≤ x ∧ x ≤ s.n) (hL : l.length ≤ 1000) (hp : pickL s l = none) :
    Calls Try.prog 9 #[.agg #[.slice so s.n cap, .int .i64 (C : Int)], .int .i64 t] w (RfPost w so s since C 0) := by
  have cR := tk_row (cap := cap) h hN C hC t hl
  have H := Lib.hid h
  have HM := Lib.hid hm
  have hall : ∀ x ∈ l, s.out x = true := fun x hx => by
    have h1 := List.find?_eq_none.1 hp x hx
    obtain ⟨a, b⟩ := hm x hx
    rw [outI_at a b] at h1
    simpa using h1
  have HA := Lib.hid hall
  clear h hm hl hp hall
  go_enter Try.func9, Try.ntmps9
  go_wp2_with (go_at_call 20; with_reducible refine cR.mono ?_; intro e w3 h3; unfold TkRow at h3; obtain ⟨ro, rc, rfl, hT⟩ := h3)
  clear cR
  go_loopw [13] (fun i wr => ∃ k : Nat, k ≤ l.length ∧ i = .int .i64 k ∧ TkSt w so s.n cap C l ro rc wr) (fun i _ => l.length - (intOf i).toNat)
  case atStart => exact ⟨0, Nat.zero_le _, rfl, hT⟩
  case round =>
    clear hT
    obtain ⟨k, hk, rfl, hT⟩ := hrel
    by_cases hkl : k < l.length
    · have hkl2 : k < l.length := by omega
      obtain ⟨x, hx⟩ : ∃ x, l[k]? = some x := ⟨_, List.getElem?_eq_getElem hkl2⟩
      have hxm := List.mem_of_getElem? hx
      obtain ⟨x1, x2⟩ := HM.out x hxm
      obtain ⟨j, rfl⟩ : ∃ j, x = j + 1 := ⟨x - 1, by omega⟩
      have ho := HA.out _ hxm
      rcases row_cell hT.row with e0 | ⟨g, rfl, hc⟩
      · omega
      have c0 := hc k (j + 1) hx
      rw [Int.natCast_add, Int.natCast_one] at c0
      have d0 : wr.cell? ⟨w.heap.size, 0, none⟩ = some (.slice so s.n cap) := (blk_cell hT.m0 0).trans rfl
      obtain ⟨b, o, rfl, hb⟩ := rf_at (H.out.after hT.wrote) (show 0 < s.n by omega)
      obtain ⟨y0, y1, y2⟩ := hb j (by omega)
      rw [ho] at y2
      generalize s.own (j + 1) = O1 at y0
      generalize since (j + 1) = S1 at y1
      have hj : (j : Int) < s.n := by omega
      have hj9 : (j : Int) < 1000 := by omega
      have HT := Lib.hid hT
      clear hT hc hb hx hxm ho x1 x2
      go_wp2
      go_roundw
      case rel => exact ⟨k + 1, by omega, by go_num, HT.out.after ((Wrote.refl Nil wr).alloc _)⟩
      case measure => simp [intOf]; omega
    · obtain rfl : k = l.length := by omega
      have d0 : wr.cell? ⟨w.heap.size, 0, none⟩ = some (.slice so s.n cap) := (blk_cell hT.m0 0).trans rfl
      have d1 : wr.cell? ⟨w.heap.size, 1, none⟩ = some (.int .i64 (C : Int)) := (blk_cell hT.m0 1).trans rfl
      have r0 := (blk_cell hT.m1 0).trans rfl
      have r1 := (blk_cell hT.m1 1).trans rfl
      have f0 := blk_frozen hT.m1 0
      have f1 := blk_frozen hT.m1 1
      have HT := Lib.hid hT
      clear hT
      go_wp2
      (try simp only [Exit.inBlock, Exit.then])
      obtain ⟨W5, hW5⟩ : ∃ W5, W5 = (wr.setCell ⟨w.heap.size + 1, 0, none⟩ (.slice so s.n cap)).setCell ⟨w.heap.size + 1, 1, none⟩ (.int .i64 (C : Int)) := ⟨_, rfl⟩
      obtain ⟨p2, p3, p4⟩ := ret_end HT.out.m1 hW5
      rw [← hW5]
      clear hW5 r0 r1 f0 f1 d0 d1
      have hfin : RfPost w so s since C 0 (.returned (.tuple #[.agg #[.slice so s.n cap, .int .i64 (C : Int)], .int .i64 0])) W5 := by
        have hww : Wrote Nil w W5 := HT.out.wrote.one p4 (by omega)
        exact ⟨so, cap, rfl, H.out.after hww, hww, fun b hb => .inl hb⟩
      refine bodyPost_ret (v := .tuple #[.agg #[.slice so s.n cap, .int .i64 (C : Int)], .int .i64 0]) ?_ rfl hfin
      rw [results_cell_tmp rfl]
      go_simp

set_option maxRecDepth 100000 in
set_option maxHeartbeats 2000000 in
theorem rf_take_yes {w : World} {so : Option Addr} {cap : Nat} {s : PS} {since : Nat → Nat} (h : RfAt w so s since) (hN : s.n ≤ 1000) (C : Nat) (hC : C ≤ 1000) (t : Int) {l : List Nat} (hl : rowS s since t C = l) (hm : ∀ x ∈ l, 1 ≤ x ∧ x ≤ s.n) (hL : l.length ≤ 1000) {id : Nat} (hp : pickL s l = some id) :
    Calls Try.prog 9 #[.agg #[.slice so s.n cap, .int .i64 (C : Int)], .int .i64 t] w (RfPost w so (s.setOut id true) since C (id : Int)) := by
  have cR := tk_row (cap := cap) h hN C hC t hl
  have H := Lib.hid h
  have HM := Lib.hid hm
  obtain ⟨K, hK, hKl, hbef⟩ : ∃ K, l[K]? = some id ∧ K < l.length ∧ ∀ i x, i < K → l[i]? = some x → s.out x = true := by
    unfold pickL at hp
    rw [List.find?_eq_some_iff_append] at hp
    obtain ⟨hx, l1, l2, rfl, ha⟩ := hp
    refine ⟨l1.length, by simp, by simp, fun i x hi hx' => ?_⟩
    rw [List.getElem?_append_left hi] at hx'
    have h1 := ha x (List.mem_of_getElem? hx')
    obtain ⟨a, b⟩ := hm x (by rw [List.mem_append]; exact .inl (List.mem_of_getElem? hx'))
    rw [outI_at a b] at h1
    simpa using h1
  have hid : s.out id = false := by
    have h1 := List.find?_some hp
    obtain ⟨a, b⟩ := hm id (List.mem_of_getElem? hK)
    rw [outI_at a b] at h1
    simpa using h1
  have HA := Lib.hid hbef
  have HK := Lib.hid (And.intro hK hid)
  clear h hm hl hp hbef hK hid
  go_enter Try.func9, Try.ntmps9
  go_wp2_with (go_at_call 20; with_reducible refine cR.mono ?_; intro e w3 h3; unfold TkRow at h3; obtain ⟨ro, rc, rfl, hT⟩ := h3)
  clear cR
  go_loopw [13] (fun i wr => ∃ k : Nat, k ≤ K ∧ i = .int .i64 k ∧ TkSt w so s.n cap C l ro rc wr) (fun i _ => K - (intOf i).toNat)
  case atStart => exact ⟨0, Nat.zero_le _, rfl, hT⟩
  case round =>
    clear hT
    obtain ⟨k, hk, rfl, hT⟩ := hrel
    by_cases hkl : k < K
    · have hkl2 : k < l.length := by omega
      obtain ⟨x, hx⟩ : ∃ x, l[k]? = some x := ⟨_, List.getElem?_eq_getElem hkl2⟩
      have hxm := List.mem_of_getElem? hx
      obtain ⟨x1, x2⟩ := HM.out x hxm
      obtain ⟨j, rfl⟩ : ∃ j, x = j + 1 := ⟨x - 1, by omega⟩
      have ho := HA.out k _ hkl hx
      rcases row_cell hT.row with e0 | ⟨g, rfl, hc⟩
      · omega
      have c0 := hc k (j + 1) hx
      rw [Int.natCast_add, Int.natCast_one] at c0
      have d0 : wr.cell? ⟨w.heap.size, 0, none⟩ = some (.slice so s.n cap) := (blk_cell hT.m0 0).trans rfl
      obtain ⟨b, o, rfl, hb⟩ := rf_at (H.out.after hT.wrote) (show 0 < s.n by omega)
      obtain ⟨y0, y1, y2⟩ := hb j (by omega)
      rw [ho] at y2
      generalize s.own (j + 1) = O1 at y0
      generalize since (j + 1) = S1 at y1
      have hj : (j : Int) < s.n := by omega
      have hj9 : (j : Int) < 1000 := by omega
      have HT := Lib.hid hT
      clear hT hc hb hx hxm ho x1 x2
      go_wp2
      go_roundw
      case rel => exact ⟨k + 1, by omega, by go_num, HT.out.after ((Wrote.refl Nil wr).alloc _)⟩
      case measure => simp [intOf]; omega
    · obtain rfl : k = K := by omega
      obtain ⟨x1, x2⟩ := HM.out id (List.mem_of_getElem? HK.out.1)
      obtain ⟨j, rfl⟩ : ∃ j, id = j + 1 := ⟨id - 1, by omega⟩
      have hx := HK.out.1
      have ho := HK.out.2
      rcases row_cell hT.row with e0 | ⟨g, rfl, hc⟩
      · omega
      have c0 := hc k (j + 1) hx
      rw [Int.natCast_add, Int.natCast_one] at c0 ⊢
      have d0 : wr.cell? ⟨w.heap.size, 0, none⟩ = some (.slice so s.n cap) := (blk_cell hT.m0 0).trans rfl
      have d1 : wr.cell? ⟨w.heap.size, 1, none⟩ = some (.int .i64 (C : Int)) := (blk_cell hT.m0 1).trans rfl
      have l0 := blk_lt hT.m0
      have l1 := blk_lt hT.m1
      obtain ⟨b, o, rfl, hb⟩ := rf_at (H.out.after hT.wrote) (show 0 < s.n by omega)
      obtain ⟨y0, y1, y2⟩ := hb j (by omega)
      rw [ho] at y2
      have hj : (j : Int) < s.n := by omega
      have hj9 : (j : Int) < 1000 := by omega
      have hkl : (k : Int) < l.length := by omega
      have cW : ∀ W, Wrote Nil wr W → Calls Try.prog 21 #[.agg #[.slice (some ⟨b, o, none⟩) s.n cap, .int .i64 (C : Int)], .int .i64 ((j : Int) + 1), .agg #[.int .i64 (s.own (j + 1)), .int .i64 (since (j + 1) : Int), .bool true]] W (WithPost W (s.setOut (j + 1) true) since (C : Int)) := fun W hW => rf_with (s' := s.setOut (j + 1) true) (since' := since) ((H.out.after hT.wrote).after hW) (by omega) (show j < s.n by omega) rfl (C : Int) _ _ true (refC_out s since j true)
      generalize s.own (j + 1) = O1 at y0 cW
      generalize since (j + 1) = S1 at y1 cW
      have HT := Lib.hid hT
      clear hT hc hb hx ho x1 x2 HA
      go_wp2_with (go_at_call 21; with_reducible refine (cW _ ((Wrote.refl Nil wr).alloc _)).mono ?_; intro e w2 h2; unfold WithPost at h2; obtain ⟨so2, cap2, rfl, hR2, hW2, hn2⟩ := h2; have hT2 := (HT.out.after ((Wrote.refl Nil wr).alloc _)).after hW2; have r0 := (blk_cell hT2.m1 0).trans rfl; have r1 := (blk_cell hT2.m1 1).trans rfl; have f0 := blk_frozen hT2.m1 0; have f1 := blk_frozen hT2.m1 1; have HW2 := Lib.hid (And.intro hW2 (And.intro hR2 (And.intro hn2 hT2.m1))); clear hW2 hR2 hn2 hT2)
      (try simp only [Exit.inBlock, Exit.then])
      obtain ⟨W5, hW5⟩ : ∃ W5, W5 = (w2.setCell ⟨w.heap.size + 1, 0, none⟩ (.slice so2 (s.setOut (j + 1) true).n cap2)).setCell ⟨w.heap.size + 1, 1, none⟩ (.int .i64 (C : Int)) := ⟨_, rfl⟩
      obtain ⟨p2, p3, p4⟩ := ret_end HW2.out.2.2.2 hW5
      rw [← hW5]
      clear hW5 r0 r1 f0 f1 d0 d1 c0 y0 y1 y2
      refine bodyPost_ret (v := .tuple #[.agg #[.slice so2 (s.setOut (j + 1) true).n cap2, .int .i64 (C : Int)], .int .i64 ((j : Int) + 1)]) ?_ rfl (with_done (HT.out.wrote.alloc _) HW2.out.1 HW2.out.2.1 HW2.out.2.2.1 (by rw [Go.Deep.nblk_alloc]; omega) (by omega) p4)
      rw [results_cell_tmp rfl]
      go_simp
end Go.Proofs.Ytjkheoiebabkhaa
