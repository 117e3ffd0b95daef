/- A new lock of locks and its port, used over it; the document's example of one. -/
import Derived.Test.YtkmikkjjnbikdaaGreatLockFine
import Derived.Laws.StructEq
namespace Go.Proofs.YtkmikkjjnbikdaaGreat
open Go.RowKit Go.BigFrame
set_option linter.unusedVariables false
set_option maxRecDepth 100000

/-! ### a new lock and its port -/
def hNo (zs : List Int) (t : Nat) : Nat := (zs.getD t 0).toNat
def cntC (zs : List Int) (n c : Nat) : Nat := cntN (hNo zs) c n
def wordsC (zs : List Int) (n : Nat) (G K : Int) : List Int := List.replicate (8 + inZ G 8 + lZ K (cntC zs n) 8) 0
def homesC (zs : List Int) (n : Nat) (G K : Int) : List Int := gH G ++ lH K (cntC zs n) 8
def newC (zs : List Int) (n : Nat) (G K B : Int) (t : Nat) : FL := newCo (hNo zs) n G K B 0 (newS t (wordsC zs n G K))
theorem hNo_of {zs : List Int} {n : Nat} (hl : zs.length = n) (h : homesOK zs = true) : ∀ t, t < n → zs.getD t 0 = (hNo zs t : Nat) ∧ hNo zs t < 8 := fun t ht => by
  unfold homesOK at h
  rw [List.all_eq_true] at h
  have hg : zs.getD t 0 ∈ zs := by
    rw [List.getD_eq_getElem?_getD, List.getElem?_eq_getElem (show t < zs.length by omega)]
    exact List.getElem_mem _
  have := h _ hg
  unfold okH at this
  have := of_decide_eq_true this
  unfold hNo
  omega
theorem cntC_le (zs : List Int) (n c : Nat) : cntC zs n c ≤ n := cntN_le _ _ _
theorem ok_append {a b : List Int} (ha : homesOK a = true) (hb : homesOK b = true) : homesOK (a ++ b) = true := by
  unfold homesOK at *
  rw [List.all_append, ha, hb]
  rfl
theorem ok_head {zs : List Int} (h : homesOK zs = true) : homesOK [zs.getD 0 0] = true := by
  cases zs with
  | nil => decide
  | cons z r =>
    unfold homesOK at *
    simp only [List.all_cons, Bool.and_eq_true] at h
    simp [h.1]
theorem ok_dbl {zs : List Int} (h : homesOK zs = true) : homesOK (Km.dbl zs) = true := by
  unfold homesOK Km.dbl at *
  rw [List.all_eq_true] at *
  intro x hx
  obtain ⟨z, hz, hx⟩ := List.mem_flatMap.1 hx
  have : x = z := by simpa using hx
  rw [this]
  exact h z hz
theorem ok_inH {K : Int} {zs : List Int} (h : homesOK zs = true) : homesOK (inH K zs) = true := by
  unfold inH
  split
  · exact ok_append (ok_head h) (ok_head h)
  split
  · exact ok_append (ok_append (ok_head h) (ok_head h)) h
  · exact ok_append (ok_head h) (ok_dbl h)
theorem ok_lH (K : Int) (cnt : Nat → Nat) : ∀ m, m ≤ 8 → homesOK (lH K cnt m) = true
  | 0, _ => rfl
  | m + 1, hm => by
    unfold lH
    refine ok_append (ok_lH K cnt m (by omega)) ?_
    split
    · exact ok_inH (ok_rep _ _ (by omega))
    · rfl
theorem ok_homesC (zs : List Int) (n : Nat) (G K : Int) : homesOK (homesC zs n G K) = true := ok_append (ok_append ok_nodes (ok_inH ok_nodes)) (ok_lH K _ 8 (Nat.le_refl _))
theorem homesC_len (zs : List Int) (n : Nat) (G K : Int) : (homesC zs n G K).length = 8 + inZ G 8 + lZ K (cntC zs n) 8 := by unfold homesC; rw [List.length_append, gH_len, lH_len]
theorem sizeC_le {zs : List Int} {n : Nat} (G K : Int) (hn : n ≤ 64) : 8 + inZ G 8 + lZ K (cntC zs n) 8 ≤ 1200 := by
  have := inZ_le G 8
  have := lZ_le K (cntC zs n) 8 fun c => Nat.le_trans (cntC_le zs n c) hn
  omega
theorem wordsC_rng (zs : List Int) (n : Nat) (G K : Int) (j : Nat) : 0 ≤ (wordsC zs n G K).getD j 0 ∧ (wordsC zs n G K).getD j 0 < 4294967296 := by
  unfold wordsC
  rw [List.getD_eq_getElem?_getD, List.getElem?_replicate]
  split <;> decide
theorem ord_new (zs : List Int) (n : Nat) {G K B : Int} (hl : zs.length = n) (n8 : n ≤ 8) (ho : homesOK zs = true) (hB : 1 ≤ B ∧ B ≤ 1000) : OrdJ (newC zs n G K B n) (newC zs n G K B n).ga (newC zs n G K B n).la (fun _ => none) (fun _ => []) none [] := by
  have hH := hNo_of hl ho
  have hz : ∀ x ∈ (newS n (wordsC zs n G K)).ws, x = 0 := fun x hx => List.eq_of_mem_replicate hx
  have hw : (newS n (wordsC zs n G K)).ws.length = 8 + inZ G 8 + lZ K (cntC zs n) 8 := List.length_replicate
  have pos : ∀ t, t < n → 0 < cntC zs n (hNo zs t) := fun t ht => (cntN_pos _ _ _).2 ⟨t, ht, rfl⟩
  have lm : ∀ t, t < n → lZ K (cntC zs n) (hNo zs t) + inZ K (cntC zs n (hNo zs t)) ≤ lZ K (cntC zs n) 8 := fun t ht => lZ_mono K _ (hH t ht).2 (pos t ht)
  refine OrdJ.start n8 hB (by show (List.replicate n 0).length = n; exact List.length_replicate) hz (fun t ht => (hH t ht).2) (fun t ht => ?_) (fun t u ht hu e1 e2 => cntN_inj _ e1 e2) (fun t ht => ?_) (fun c j => ?_) ?_ ?_ (fun c => ?_) (by omega) (fun t ht => ?_) (fun t u ht hu hne => ?_)
  · show cntN (hNo zs) (hNo zs t) t < (newInn K (cntN (hNo zs) (hNo zs t) n) _).s.n
    rw [newInn_s]
    exact cntN_lt _ ht
  · rw [newInn_on]
    refine newInn_at (Nat.le_trans (cntN_le _ _ _) n8) ?_ hz
    have := lm t ht
    unfold cntC at this
    rw [hw]
    unfold cntC
    omega
  · rw [newInn_s]; rfl
  · rw [newInn_on]
    refine newInn_at (by decide) ?_ hz
    rw [hw]
    omega
  · rw [newInn_s]; rfl
  · rw [newInn_s]; rfl
  · rw [newInn_size]
    omega
  · rw [newInn_size, newInn_size]
    have h1 := pos t ht
    have h2 := pos u hu
    unfold cntC at h1 h2
    rcases Nat.lt_or_ge (hNo zs t) (hNo zs u) with q | q
    · left
      have := lZ_mono K (fun c => cntN (hNo zs) c n) q h1
      omega
    · right
      have := lZ_mono K (fun c => cntN (hNo zs) c n) (show hNo zs u < hNo zs t by omega) h2
      omega
/-- behind made -/
def MdPost (w : World) (n : Nat) (zs : List Int) (G K B : Int) (e : Ending) (w' : World) : Prop := ∃ L : Lp, e = .returned (.tuple #[.pointer (some ⟨L.lb, 0, none⟩), .pointer (some ⟨L.q.p, 0, none⟩)]) ∧ LkS w w' L (newC zs n G K B n) ∧ L.a1 = 0 ∧ L.hs = homesC zs n G K
def PtPost (w0 : World) (n : Nat) (zs : List Int) (G K B : Int) (lb : Nat) (e : Ending) (w' : World) : Prop := ∃ L : Lp, e = .returned (.tuple #[.pointer (some ⟨L.q.p, 0, none⟩), .int .i64 0]) ∧ (L.a1 = 0 ∧ LkP w0 w' L (newC zs n G K B n)) ∧ L.lb = lb ∧ L.hs = homesC zs n G K
theorem nxF_new (zs : List Int) (n : Nat) (G K B : Int) (t : Nat) : nxF (newC zs n G K B n) t = callsV := by
  unfold nxF
  rfl
theorem fl_port {w0 w w1 : World} {q q' : Pl} {n : Nat} {zs : List Int} {G K B : Int} {L0 : Lp} (h0 : Wrote Nil w0 w) (hq : ∀ k, q.F k → w0.heap.size ≤ k) (n1 : 1 ≤ n) (n2 : n ≤ 8) (ho : homesOK zs = true) (hn : zs.length = n) (hB : 1 ≤ B ∧ B ≤ 1000)
    (hR : ∀ ps, FlRaw w1 L0 (.pointer none) (.pointer none) (fun _ => .pointer none) (newCo (hNo zs) n G K B 0 ps) (fun _ => callsV)) (hl : w.heap.size ≤ L0.lo) (h1 : L0.a1 = 0) (hqq : q'.p = q.p) (hP : PlanAt w1 q' n (homesC zs n G K) (wordsC zs n G K)) (hW : Wrote q.F w w1) :
    Calls Tryz.prog 30 #[.pointer (some ⟨q.p, 0, none⟩)] w1 (PtPost w0 n zs G K B L0.lb) := by
  have c := plport_good hP (fun j => wordsC_rng zs n G K j) n1 (by omega) (by rw [homesC_len]; have := sizeC_le (zs := zs) G K (show n ≤ 64 by omega); omega) (ok_homesC zs n G K)
  rw [hqq] at c
  refine c.mono ?_
  rintro e w' ⟨qq, rfl, hA, hk0, hk3, hW2⟩
  have s0 := h0.size
  have hr0 := hR (newS n (wordsC zs n G K))
  have hr := (hr0.wrote hW2 fun _ _ _ => id).place qq (homesC zs n G K)
  refine ⟨{ L0 with q := qq, hs := homesC zs n G K }, rfl, ⟨h1, ⟨hr.same fun t _ => (nxF_new zs n G K B t).symm, hA, ⟨?_, fun c hc hh => ?_⟩, hk3, by dsimp only; omega, (h0.trans hW fun k hk e => by have := hq k e; unfold Nil; omega).nil hW2, ?_, h1⟩⟩, rfl, rfl⟩
  · have := hr0.glo.le
    dsimp only
    omega
  · have := (hr0.loc c hc hh).le
    dsimp only
    omega
  · exact ⟨_, _, _, _, ord_new zs n hn n2 ho hB⟩
theorem i_knd : (Tryz.prog.info? 24).map (·.size) = some 3 := by kernel_rfl
set_option maxHeartbeats 4000000 in
theorem fl_made {w : World} {b o n cap : Nat} {zs : List Int} {G K B : Int} (hr : RowAt .i64 w (some ⟨b, o, none⟩) n zs) (hb : b < w.heap.size) (ho : homesOK zs = true) (n1 : 1 ≤ n) (n2 : n ≤ 8) (hc : rightB G K B = true) :
    Calls Tryz.prog 11 #[.slice (some ⟨b, o, none⟩) n cap, .agg #[.int .i64 G, .int .i64 K, .int .i64 B]] w (MdPost w n zs G K B) := by
  have hB : 1 ≤ B ∧ B ≤ 1000 := by
    have hc' := hc
    unfold rightB at hc'
    simp only [Bool.and_eq_true, decide_eq_true_eq] at hc'
    exact ⟨hc'.1.2, hc'.2⟩
  obtain ⟨X, hX⟩ : ∃ X, X = w.alloc (.cells #[.int .i64 G, .int .i64 K, .int .i64 B] 24) := ⟨_, rfl⟩
  have hWX : Wrote Nil w X := by rw [hX]; exact (Wrote.refl _ w).alloc _
  have hblk : X.heap[w.heap.size]? = some (.cells #[.int .i64 G, .int .i64 K, .int .i64 B] 24 (0, 0)) := by rw [hX]; exact Go.Deep.blk_alloc_new _ _
  have HH := Lib.hid (And.intro (hr.after hWX) (And.intro (show b < X.heap.size from Nat.lt_of_lt_of_le hb hWX.size) (And.intro ho (And.intro hblk hWX))))
  have HL := Lib.hid (And.intro hr.len hB)
  have HX := Lib.hid hX
  have cP := fun W => plnew_any (n : Int) W
  clear hr hb ho hWX hblk hX
  go_enter Tryz.func11, Tryz.ntmps11
  go_wp2_with (first
    | (go_at_call 22; rw [← HX.out]; (with_reducible refine (cP _).mono ?_); rintro e w1 ⟨q, rfl, hP, hnew, hW1⟩; have hbk := (hW1.block _ (blk_lt HH.out.2.2.2.1) id).trans HH.out.2.2.2.1; have k0 : w1.cell? ⟨w.heap.size, 0, none⟩ = some (.int .i64 G) := (blk_cell hbk 0).trans rfl; have k1 : w1.cell? ⟨w.heap.size, 1, none⟩ = some (.int .i64 K) := (blk_cell hbk 1).trans rfl; have k2 : w1.cell? ⟨w.heap.size, 2, none⟩ = some (.int .i64 B) := (blk_cell hbk 2).trans rfl; have H1 := Lib.hid (And.intro hP (And.intro hnew hW1)); clear hP hnew hW1 hbk)
    | (go_at_call 24; (with_reducible refine (fn_new H1.out.1 (HH.out.1.after H1.out.2.2) HH.out.2.2.1 (hNo_of HL.out.1 HH.out.2.2.1) n1 (by omega) (Nat.zero_le _) (fun e => by have := H1.out.2.1 _ e; have := HH.out.2.1; omega) (Nat.lt_of_lt_of_le HH.out.2.1 H1.out.2.2.size) hc).mono ?_); intro e w2 hq; unfold NewCoPost at hq; obtain ⟨L0, q2, he, hR, hl, ha1, hqq, hP2, hW2, hC2⟩ := hq; obtain ⟨lb, hlb0⟩ : ∃ lb, lb = L0.lb := ⟨_, rfl⟩; rw [← hlb0] at he; subst he; have cQ := fl_port (w0 := X) (zs := zs) (B := B) H1.out.2.2 H1.out.2.1 n1 n2 HH.out.2.2.1 HL.out.1 HL.out.2 hR hl ha1 hqq hP2 hW2; rw [← hlb0] at cQ; clear hR hl ha1 hqq hP2 hW2 hC2 hlb0)
    | (go_at_call 30; (with_reducible refine cQ.mono ?_); clear cQ; intro e w3 hq; unfold PtPost at hq; obtain ⟨L, rfl, ⟨ha1, hL⟩, hlb, hhs⟩ := hq; subst hlb; have HA := Lib.hid (And.intro ha1 hhs); have H2 := Lib.hid hL; clear ha1 hL hhs)
    | (go_at_call 31; ((with_reducible refine (lp_use H2.out).mono ?_); rintro e w4 ⟨rfl, hL, _⟩; have H3 := Lib.hid hL; clear hL)))
  go_ret2
  exact ⟨L, rfl, ⟨H3.out.lk, by have := H3.out.low; have := HH.out.2.2.2.2.size; omega, HH.out.2.2.2.2.nil H3.out.wr⟩, HA.out⟩

/-! ### the document's example -/
def exG (L : Lp) : Nat → FL
  | 0 => (newC [3] 1 1 1 1 1).lock 0 (-1)
  | i + 1 => (exG L i).step L 0 0
structure ExAll (L : Lp) : Prop where
  l1 : lockE (newC [3] 1 1 1 1 1).s 0 (-1) = 0
  dd : ∀ i : Nat, i < 5 → (exG L i).did L 0 0 = ⟨0, (i : Int) == 0, (i : Int) == 3, false⟩
  d5 : (exG L 5).did L 0 0 = ⟨1, false, false, true⟩
  dG : ∀ i : Nat, i < 6 → (exG L i).ps.D.length < 4611686018427387904
theorem dd_of {a b : Dd} (h : (a.ev == b.ev && a.enq == b.enq && a.arr == b.arr && a.lead == b.lead) = true) : a = b := by
  cases a; cases b
  simpa [and_assoc] using h
theorem ex_all (L : Lp) (h1 : L.a1 = 0) : ExAll L := by
  obtain ⟨a, b, c, d, x, y, q, hs, lo, gi, li, hh⟩ := L
  obtain rfl : x = 0 := h1
  refine ⟨by decide, fun i hi => ?_, by kernel_rfl, fun i hi => ?_⟩
  · have : i = 0 ∨ i = 1 ∨ i = 2 ∨ i = 3 ∨ i = 4 := by omega
    rcases this with rfl | rfl | rfl | rfl | rfl <;> exact dd_of (by kernel_rfl)
  · have : i = 0 ∨ i = 1 ∨ i = 2 ∨ i = 3 ∨ i = 4 ∨ i = 5 := by omega
    rcases this with rfl | rfl | rfl | rfl | rfl | rfl <;> exact of_decide_eq_true (by kernel_rfl)
theorem rowO (w : World) (x : Int) : RowAt .i64 (w.alloc (.cells #[.int .i64 x] 3)) (some ⟨w.heap.size, 0, none⟩) 1 [x] := by
  refine ⟨rfl, fun e => (by cases e), fun b hb j hj => ?_⟩
  have e : j = 0 := by omega
  subst e
  cases hb
  exact (blk_cell (Go.Deep.blk_alloc_new w (.cells #[.int .i64 x] 3)) 0).trans rfl
set_option maxHeartbeats 4000000 in
theorem fl_awake (w : World) : Calls Tryz.prog 10 #[] w (AwakePost w) := by
  obtain ⟨W0, hW0⟩ : ∃ W0, W0 = w.alloc (.cells #[.int .i64 3] 3) := ⟨_, rfl⟩
  have cM : Calls Tryz.prog 11 #[.slice (some ⟨w.heap.size, 0, none⟩) 1 1, .agg #[.int .i64 1, .int .i64 1, .int .i64 1]] W0 (MdPost W0 1 [3] 1 1 1) := fl_made (w := W0) (cap := 1) (by rw [hW0]; exact rowO w 3) (by rw [hW0, Go.Deep.nblk_alloc]; omega) (zs := [3]) (by decide) (by decide) (by decide) (by decide)
  have hWz : Wrote Nil w W0 := by rw [hW0]; exact (Wrote.refl _ w).alloc _
  have HW := Lib.hid hWz
  rw [hW0] at cM
  have H00 := Lib.hid hW0
  clear hWz hW0
  go_enter Tryz.func10, Tryz.ntmps10
  go_wp2_with (first
    | (go_at_call 11; (with_reducible refine cM.mono ?_); intro e w1 hq; unfold MdPost at hq; obtain ⟨L, rfl, hL, h1, _⟩ := hq; rw [← H00.out] at hL; have c0 := hL.cell0; have HA := Lib.hid (ex_all L h1); have H1 := Lib.hid hL; clear hL h1)
    | (go_at_call 18; (with_reducible refine (ls_lock H1.out 0 (-1)).mono ?_); intro e w2 hq; unfold LsPost at hq; obtain ⟨rfl, hL, _⟩ := hq; rw [HA.out.l1]; have H2 := Lib.hid (show LkS W0 w2 L (exG L 0) from hL); clear hL))
  clear H1
  go_loopw [3, 21] (fun _ i wr => ∃ k : Nat, k ≤ 5 ∧ i = .int .i64 k ∧ LkS W0 wr L (exG L k)) (fun _ i _ => 5 - (intOf i).toNat)
  case atStart => exact ⟨0, Nat.zero_le _, rfl, H2.out⟩
  case round =>
    clear H2
    obtain ⟨k, hk, rfl, hL⟩ := hrel
    by_cases hlt : k < 5
    · have jk : (k : Int) < 5 := by omega
      have HL := Lib.hid hL
      have HK := Lib.hid (And.intro (HA.out.dG k (by omega)) (HA.out.dd k hlt))
      clear hL
      go_wp2_with (go_at_call 20; (with_reducible refine (ls_step HL.out 0 0 0 HK.out.1).mono ?_); intro e w3 hq; unfold LsPost at hq; obtain ⟨rfl, hL, _⟩ := hq; rw [HK.out.2]; dsimp only [Dd.val]; have H3 := Lib.hid (show LkS W0 w3 L (exG L (k + 1)) from hL); clear hL)
      go_roundw
      case rel => exact ⟨k + 1, by omega, by go_num, H3.out⟩
      case measure => simp [intOf]; omega
    · obtain rfl : k = 5 := by omega
      have HL := Lib.hid hL
      have HK := Lib.hid (HA.out.dG 5 (by omega))
      clear hL
      go_wp2_with (go_at_call 20; (with_reducible refine (ls_step HL.out 0 0 0 HK.out).mono ?_); intro e w3 hq; unfold LsPost at hq; obtain ⟨rfl, hL, _⟩ := hq; rw [HA.out.d5]; dsimp only [Dd.val]; have H3 := Lib.hid hL; clear hL)
      go_ret
      exact ⟨rfl, HW.out.nil H3.out.wr⟩
end Go.Proofs.YtkmikkjjnbikdaaGreat
