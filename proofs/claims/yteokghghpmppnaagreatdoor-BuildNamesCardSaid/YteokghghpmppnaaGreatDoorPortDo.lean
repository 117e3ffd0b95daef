/- The contracts of package port's accesses: each is counted, and does what the memory does. -/
import Derived.Test.YteokghghpmppnaaGreatDoorPort
namespace Go.Proofs.YteokghghpmppnaaGreatDoor
open Go.RowKit
set_option linter.unusedVariables false
set_option maxRecDepth 100000

def CountPost (q : Place) (hs : List Int) (s : PSta) (b : Bool) (w : World) (e : Ending) (w' : World) : Prop :=
  e = .returned (.bool b) ∧ PortAt w' q hs s ∧ Wrote (Rng q.k0 q.k3) w w'

theorem block_at {w : World} {b : Nat} {l : List Nat} {t : TypeId} (h : w.heap[b]? = some (.cells (natRow l) t (0, 0))) (k : Nat) : (w.setCell ⟨b, k, none⟩ (.int .i64 (((l.getD k 0 : Nat) : Int) + 1))).heap[b]? = some (.cells (natRow (bump l k true)) t (0, 0)) := by
  rw [blk_setCell h]
  have := natRow_set l k (l.getD k 0 + 1)
  simp only [bump, if_pos]
  rw [← this]
  rfl

set_option maxRecDepth 100000 in
set_option maxHeartbeats 1000000 in
theorem count_ok {w : World} {q : Place} {hs : List Int} {s : PSta} (h : PortAt w q hs s) (t a : Nat) (wr : Bool) (ht : t < s.ac.length) (ha : a < s.ws.length) (hD : s.D.length < 4611686018427387904) :
    Calls Tryz.prog 64 #[.pointer (some ⟨q.p, 0, none⟩), .int .i64 t, .int .i64 a, .bool wr] w (CountPost q hs (touchS s t a wr) true w) := by
  have c1 := pthread_any h t
  rw [inB_at ht] at c1
  have c2 := pword_any h a
  rw [inB_at ha] at c2
  have d1 := h.cell1
  have d2 := h.cell2
  have d3 := h.cell3
  have d4 := h.count ht
  have d5 := h.writes ht
  have d6 := h.frozenA t
  have d7 := h.frozenV t
  have ht' : (t : Int) < s.ac.length := by omega
  have ht0 : (0 : Int) ≤ t := by omega
  have b1 : ((s.ac.getD t 0 : Nat) : Int) + 1 ≤ 9223372036854775807 := by have := getD_le h.rngA t; omega
  have b2 : ((s.wc.getD t 0 : Nat) : Int) + 1 ≤ 9223372036854775807 := by have := getD_le h.rngV t; omega
  have P := h.place
  have n1 : ¬ q.p = q.ba := P.ne.1
  have n2 : ¬ q.p = q.bv := P.ne.2.1
  have n3 : ¬ q.bv = q.ba := P.ne.2.2.symm
  have n4 : ∀ b, b < q.k2 → b ≠ q.ba ∧ b ≠ q.bv := fun b hb => by have := P.ba; have := P.bv; omega
  obtain ⟨cs, hc, hl, hr⟩ := h.cache
  have k1 : ∀ b, b < q.k2 → (w.setCell ⟨q.ba, t, none⟩ (.int .i64 (((s.ac.getD t 0 : Nat) : Int) + 1))).heap[b]? = w.heap[b]? := fun b hb => Go.Deep.blk_setCell_other _ _ _ _ (n4 b hb).1
  have k2 : ∀ b, b < q.k2 → ((w.setCell ⟨q.ba, t, none⟩ (.int .i64 (((s.ac.getD t 0 : Nat) : Int) + 1))).setCell ⟨q.bv, t, none⟩ (.int .i64 (((s.wc.getD t 0 : Nat) : Int) + 1))).heap[b]? = w.heap[b]? := fun b hb => (Go.Deep.blk_setCell_other _ _ _ _ (n4 b hb).2).trans (k1 b hb)
  have W1 : Wrote (fun b => b = q.ba ∨ b = q.bv ∨ b = q.bc ∨ b = q.bm) w (w.setCell ⟨q.ba, t, none⟩ (.int .i64 (((s.ac.getD t 0 : Nat) : Int) + 1))) := (Wrote.refl _ w).setCell _ _ fun _ => .inl rfl
  have W2 := W1.setCell ⟨q.bv, t, none⟩ (.int .i64 (((s.wc.getD t 0 : Nat) : Int) + 1)) fun _ => .inr (.inl rfl)
  have hC1 := hc.keep (k1 q.c P.c.2) (k1 q.bc P.bc.2) (k1 q.bm P.bm.2)
  have hC2 := hc.keep (k2 q.c P.c.2) (k2 q.bc P.bc.2) (k2 q.bm P.bm.2)
  have hA1 := block_at h.acc t
  have hA2 := (Go.Deep.blk_setCell_other (w.setCell ⟨q.ba, t, none⟩ (.int .i64 (((s.ac.getD t 0 : Nat) : Int) + 1))) ⟨q.bv, t, none⟩ (.int .i64 (((s.wc.getD t 0 : Nat) : Int) + 1)) q.ba (P.ne.2.2)).trans hA1
  have hV1 := (Go.Deep.blk_setCell_other w ⟨q.ba, t, none⟩ (.int .i64 (((s.ac.getD t 0 : Nat) : Int) + 1)) q.bv (P.ne.2.2.symm)).trans h.wri
  have hV2 := block_at hV1 t
  have hlm := h.lm
  have hP : ∀ w', Wrote (fun b => b = q.ba ∨ b = q.bv ∨ b = q.bc ∨ b = q.bm) w w' → w'.heap[q.ba]? = some (.cells (natRow (bump s.ac t true)) 3 (0, 0)) → w'.heap[q.bv]? = some (.cells (natRow (bump s.wc t wr)) 3 (0, 0)) →
      CacheAt w' q.c q.bc q.bm (touchC cs t a wr) (touchM cs s.mc t a wr) (s.D.length + 1) → PortAt w' q hs (touchS s t a wr) ∧ Wrote (Rng q.k0 q.k3) w w' := fun w' x1 x2 x3 x4 => h.counted ht ha hc hl hr x1 x2 x3 x4
  have hne : ∀ b, q.k2 ≤ b → ¬ Two q.bc q.bm b := fun b hb e => by have := P.bc; have := P.bm; rcases e with e | e <;> omega
  have hba := P.ba.1
  have hbv := P.bv.1
  obtain ⟨x, hx⟩ : ∃ x, x = s.ac.getD t 0 := ⟨_, rfl⟩
  obtain ⟨y, hy⟩ : ∃ y, y = s.wc.getD t 0 := ⟨_, rfl⟩
  rw [← hx] at d4 b1 k1 k2 W1 W2 hC1 hC2 hA1 hA2 hV1 hV2
  rw [← hy] at d5 b2 k2 W2 hC2 hA2 hV2
  cases wr
  · have cT := touch_there hC1 t a false (by omega) (by omega) hD
    have HH := Lib.hid (And.intro W1 (And.intro hA1 (And.intro hV1 (And.intro hP (And.intro hne (And.intro hba hbv))))))
    clear hC1 hC2 hA1 hA2 hV1 hV2 hP hne hba hbv W1 W2 k1 k2 hx hy h P hc hr n4
    go_enter Tryz.func64, Tryz.ntmps64
    go_wp2_with (first
      | (go_at_call 69; with_reducible refine c1.mono ?_; rintro e w' ⟨rfl, rfl⟩)
      | (go_at_call 70; with_reducible refine c2.mono ?_; rintro e w' ⟨rfl, rfl⟩)
      | (go_at_call 71; with_reducible refine cT.mono ?_; intro e w3 h3; unfold TouchPost at h3; obtain ⟨rfl, hC3, hW3⟩ := h3))
    go_ret
    obtain ⟨f1, f2, f3, f4, f5, f6, f7⟩ := HH.out
    have r := f4 w3 (f1.trans hW3 fun b _ e => by rcases e with e | e <;> simp [e]) ((hW3.block _ (blk_lt f2) (f5 _ f6)).trans f2) ((hW3.block _ (blk_lt f3) (f5 _ f7)).trans f3) hC3
    exact ⟨rfl, r.1, r.2⟩
  · have cT := touch_there hC2 t a true (by omega) (by omega) hD
    have HH := Lib.hid (And.intro W2 (And.intro hA2 (And.intro hV2 (And.intro hP (And.intro hne (And.intro hba hbv))))))
    clear hC1 hC2 hA1 hA2 hV1 hV2 hP hne hba hbv W1 W2 k1 k2 hx hy h P hc hr n4
    go_enter Tryz.func64, Tryz.ntmps64
    go_wp2_with (first
      | (go_at_call 69; with_reducible refine c1.mono ?_; rintro e w' ⟨rfl, rfl⟩)
      | (go_at_call 70; with_reducible refine c2.mono ?_; rintro e w' ⟨rfl, rfl⟩)
      | (go_at_call 71; with_reducible refine cT.mono ?_; intro e w3 h3; unfold TouchPost at h3; obtain ⟨rfl, hC3, hW3⟩ := h3))
    go_ret
    obtain ⟨f1, f2, f3, f4, f5, f6, f7⟩ := HH.out
    have r := f4 w3 (f1.trans hW3 fun b _ e => by rcases e with e | e <;> simp [e]) ((hW3.block _ (blk_lt f2) (f5 _ f6)).trans f2) ((hW3.block _ (blk_lt f3) (f5 _ f7)).trans f3) hC3
    exact ⟨rfl, r.1, r.2⟩

theorem count_not {w : World} {q : Place} {hs : List Int} {s : PSta} (h : PortAt w q hs s) (t a : Int) (wr : Bool) (hn : ¬(0 ≤ t ∧ t < s.ac.length ∧ 0 ≤ a ∧ a < s.ws.length)) :
    Calls Tryz.prog 64 #[.pointer (some ⟨q.p, 0, none⟩), .int .i64 t, .int .i64 a, .bool wr] w fun e w' => e = .returned (.bool false) ∧ w' = w := by
  have c1 := pthread_any h t
  have c2 := pword_any h a
  by_cases ht : 0 ≤ t ∧ t < s.ac.length
  · rw [inB_at' ht] at c1
    rw [inB_not (by omega)] at c2
    clear h hn ht
    go_enter Tryz.func64, Tryz.ntmps64
    go_wp2_with (first
      | (go_at_call 69; with_reducible refine c1.mono ?_; rintro e w' ⟨rfl, rfl⟩)
      | (go_at_call 70; with_reducible refine c2.mono ?_; rintro e w' ⟨rfl, rfl⟩))
    go_ret
    exact ⟨rfl, rfl⟩
  · rw [inB_not ht] at c1
    clear h hn ht c2
    go_enter Tryz.func64, Tryz.ntmps64
    go_wp2_with (first
      | (go_at_call 69; with_reducible refine c1.mono ?_; rintro e w' ⟨rfl, rfl⟩))
    go_ret
    exact ⟨rfl, rfl⟩

theorem count_any {w : World} {q : Place} {hs : List Int} {s : PSta} (h : PortAt w q hs s) (t a : Int) (wr : Bool) (hD : s.D.length < 4611686018427387904) :
    Calls Tryz.prog 64 #[.pointer (some ⟨q.p, 0, none⟩), .int .i64 t, .int .i64 a, .bool wr] w (CountPost q hs (cntS s t a wr) (okT s t a) w) := by
  by_cases hn : 0 ≤ t ∧ t < s.ac.length ∧ 0 ≤ a ∧ a < s.ws.length
  · obtain ⟨t, rfl⟩ := Int.eq_ofNat_of_zero_le hn.1
    obtain ⟨a, rfl⟩ := Int.eq_ofNat_of_zero_le hn.2.2.1
    unfold cntS
    rw [okT_at (show t < s.ac.length by omega) (show a < s.ws.length by omega), if_pos rfl]
    exact count_ok h t a wr (by omega) (by omega) hD
  · unfold cntS
    rw [okT_not hn, if_neg (by decide)]
    refine (count_not h t a wr hn).mono ?_
    rintro e w' ⟨rfl, rfl⟩
    exact ⟨rfl, h, Wrote.refl _ _⟩

/-! ### the accesses -/
theorem okS_of {s : PSta} {t K a : Int} (h1 : 1 ≤ K) (h5 : K ≤ 5) : okS s t K a = okT s t a := by simp [okS, h1, h5]
theorem doS_not {s : PSta} {t K a old v : Int} (h : okT s t a = false) : doS s t K a old v = s := by simp [doS, okS, h]
theorem tellS_not {s : PSta} {t K a : Int} (h : okT s t a = false) : tellS s t K a = 0 := by simp [tellS, okS, h]
theorem cntS_not {s : PSta} {t a : Int} {wr : Bool} (h : okT s t a = false) : cntS s t a wr = s := by simp [cntS, h]
theorem cntS_ok {s : PSta} {t a : Int} {wr : Bool} (h : okT s t a = true) : cntS s t a wr = touchS s t a wr := by simp [cntS, h]

def AccPost (q : Place) (hs : List Int) (s : PSta) (v : Value) (w : World) (e : Ending) (w' : World) : Prop :=
  e = .returned v ∧ PortAt w' q hs s ∧ Wrote (Rng q.k0 q.k3) w w'

theorem mem_rng {q : Place} (P : q.ok) {w w' w'' : World} (h : Wrote (Rng q.k0 q.k3) w w') (k : Wrote (One q.bw) w' w'') : Wrote (Rng q.k0 q.k3) w w'' :=
  h.trans k fun b _ e => by have := P.bw; have := P.le; cases e; unfold Rng; omega

theorem pload_any {w : World} {q : Place} {hs : List Int} {s : PSta} (h : PortAt w q hs s) (t a : Int) (hD : s.D.length < 4611686018427387904) :
    Calls Tryz.prog 60 #[.pointer (some ⟨q.p, 0, none⟩), .int .i64 t, .int .i64 a] w (AccPost q hs (doS s t 1 a 0 0) (.int .u32 (tellS s t 1 a)) w) := by
  have c := count_any h t a false hD
  cases hb : okT s t a
  · rw [hb, cntS_not hb] at c
    rw [doS_not hb, tellS_not hb]
    clear hb h
    go_enter Tryz.func60, Tryz.ntmps60
    go_wp2_with (go_at_call 64; with_reducible refine c.mono ?_; intro e w' h'; unfold CountPost at h'; obtain ⟨rfl, hP, hW⟩ := h')
    go_ret
    exact ⟨rfl, hP, hW⟩
  · rw [hb, cntS_ok hb] at c
    have e1 : tellS s t 1 a = loadI s.ws a := by simp [tellS, okS, hb, tellI]
    have e2 : doS s t 1 a 0 0 = touchS s t a false := by simp [doS, okS, hb, doL, touchS]
    rw [e1, e2]
    clear hb h e1 e2
    go_enter Tryz.func60, Tryz.ntmps60
    go_wp2_with (first
      | (go_at_call 64; with_reducible refine c.mono ?_; intro e w' h'; unfold CountPost at h'; obtain ⟨rfl, hP, hW⟩ := h'; have d0 := hP.cell0)
      | (go_at_call 65; with_reducible refine (load_any hP.mem a).mono ?_; rintro e w3 ⟨rfl, rfl⟩))
    go_ret
    exact ⟨rfl, hP, hW⟩

theorem pstore_any {w : World} {q : Place} {hs : List Int} {s : PSta} (h : PortAt w q hs s) (t a v : Int) (v0 : 0 ≤ v) (v1 : v < 4294967296) (hD : s.D.length < 4611686018427387904) :
    Calls Tryz.prog 73 #[.pointer (some ⟨q.p, 0, none⟩), .int .i64 t, .int .i64 a, .int .u32 v] w (AccPost q hs (doS s t 2 a 0 v) (.tuple #[]) w) := by
  have c := count_any h t a true hD
  cases hb : okT s t a
  · rw [hb, cntS_not hb] at c
    rw [doS_not hb]
    clear hb h
    go_enter Tryz.func73, Tryz.ntmps73
    go_wp2_with (go_at_call 64; with_reducible refine c.mono ?_; intro e w' h'; unfold CountPost at h'; obtain ⟨rfl, hP, hW⟩ := h')
    go_end0
    exact ⟨rfl, hP, hW⟩
  · rw [hb, cntS_ok hb] at c
    have e2 : doS s t 2 a 0 v = { touchS s t a true with ws := storeL s.ws a v } := by simp [doS, okS, hb, doL, touchS]
    rw [e2]
    clear hb h e2
    go_enter Tryz.func73, Tryz.ntmps73
    go_wp2_with (first
      | (go_at_call 64; with_reducible refine c.mono ?_; intro e w' h'; unfold CountPost at h'; obtain ⟨rfl, hP, hW⟩ := h'; have d0 := hP.cell0)
      | (go_at_call 40; with_reducible refine (store_any hP.mem a v v0 v1).mono ?_; rintro e w3 ⟨rfl, hM, hW3⟩))
    go_end0
    exact ⟨rfl, hP.memory hM (storeL_len _ _ _) hW3, mem_rng hP.place hW hW3⟩

theorem pswap_any {w : World} {q : Place} {hs : List Int} {s : PSta} (h : PortAt w q hs s) (t a v : Int) (v0 : 0 ≤ v) (v1 : v < 4294967296) (hD : s.D.length < 4611686018427387904) :
    Calls Tryz.prog 128 #[.pointer (some ⟨q.p, 0, none⟩), .int .i64 t, .int .i64 a, .int .u32 v] w (AccPost q hs (doS s t 3 a 0 v) (.int .u32 (tellS s t 3 a)) w) := by
  have c := count_any h t a true hD
  cases hb : okT s t a
  · rw [hb, cntS_not hb] at c
    rw [doS_not hb, tellS_not hb]
    clear hb h
    go_enter Tryz.func128, Tryz.ntmps128
    go_wp2_with (go_at_call 64; with_reducible refine c.mono ?_; intro e w' h'; unfold CountPost at h'; obtain ⟨rfl, hP, hW⟩ := h')
    go_ret
    exact ⟨rfl, hP, hW⟩
  · rw [hb, cntS_ok hb] at c
    have e1 : tellS s t 3 a = loadI s.ws a := by simp [tellS, okS, hb, tellI]
    have e2 : doS s t 3 a 0 v = { touchS s t a true with ws := storeL s.ws a v } := by simp [doS, okS, hb, doL, touchS]
    rw [e1, e2]
    clear hb h e1 e2
    go_enter Tryz.func128, Tryz.ntmps128
    go_wp2_with (first
      | (go_at_call 64; with_reducible refine c.mono ?_; intro e w' h'; unfold CountPost at h'; obtain ⟨rfl, hP, hW⟩ := h'; have d0 := hP.cell0)
      | (go_at_call 129; with_reducible refine (swap_any hP.mem a v v0 v1).mono ?_; rintro e w3 ⟨rfl, hM, hW3⟩))
    go_ret
    exact ⟨rfl, hP.memory hM (storeL_len _ _ _) hW3, mem_rng hP.place hW hW3⟩

theorem padd_any {w : World} {q : Place} {hs : List Int} {s : PSta} (h : PortAt w q hs s) (t a v : Int) (v0 : 0 ≤ v) (v1 : v < 4294967296) (hD : s.D.length < 4611686018427387904) :
    Calls Tryz.prog 113 #[.pointer (some ⟨q.p, 0, none⟩), .int .i64 t, .int .i64 a, .int .u32 v] w (AccPost q hs (doS s t 5 a 0 v) (.int .u32 (tellS s t 5 a)) w) := by
  have c := count_any h t a true hD
  cases hb : okT s t a
  · rw [hb, cntS_not hb] at c
    rw [doS_not hb, tellS_not hb]
    clear hb h
    go_enter Tryz.func113, Tryz.ntmps113
    go_wp2_with (go_at_call 64; with_reducible refine c.mono ?_; intro e w' h'; unfold CountPost at h'; obtain ⟨rfl, hP, hW⟩ := h')
    go_ret
    exact ⟨rfl, hP, hW⟩
  · rw [hb, cntS_ok hb] at c
    have e1 : tellS s t 5 a = loadI s.ws a := by simp [tellS, okS, hb, tellI]
    have e2 : doS s t 5 a 0 v = { touchS s t a true with ws := addL s.ws a v } := by simp [doS, okS, hb, doL, touchS]
    rw [e1, e2]
    clear hb h e1 e2
    go_enter Tryz.func113, Tryz.ntmps113
    go_wp2_with (first
      | (go_at_call 64; with_reducible refine c.mono ?_; intro e w' h'; unfold CountPost at h'; obtain ⟨rfl, hP, hW⟩ := h'; have d0 := hP.cell0)
      | (go_at_call 115; with_reducible refine (add_any hP.mem a v v0 v1).mono ?_; rintro e w3 ⟨rfl, hM, hW3⟩))
    go_ret
    exact ⟨rfl, hP.memory hM (storeL_len _ _ _) hW3, mem_rng hP.place hW hW3⟩

theorem pcas_any {w : World} {q : Place} {hs : List Int} {s : PSta} (h : PortAt w q hs s) (t a old v : Int) (v0 : 0 ≤ v) (v1 : v < 4294967296) (hD : s.D.length < 4611686018427387904) :
    Calls Tryz.prog 143 #[.pointer (some ⟨q.p, 0, none⟩), .int .i64 t, .int .i64 a, .int .u32 old, .int .u32 v] w (AccPost q hs (doS s t 4 a old v) (.bool (okT s t a && casB s.ws a old)) w) := by
  have c := count_any h t a true hD
  cases hb : okT s t a
  · rw [hb, cntS_not hb] at c
    rw [doS_not hb, Bool.false_and]
    clear hb h
    go_enter Tryz.func143, Tryz.ntmps143
    go_wp2_with (go_at_call 64; with_reducible refine c.mono ?_; intro e w' h'; unfold CountPost at h'; obtain ⟨rfl, hP, hW⟩ := h')
    go_ret
    exact ⟨rfl, hP, hW⟩
  · rw [hb, cntS_ok hb] at c
    have e2 : doS s t 4 a old v = { touchS s t a true with ws := casL s.ws a old v } := by simp [doS, okS, hb, doL, touchS]
    rw [e2, Bool.true_and]
    clear hb h e2
    go_enter Tryz.func143, Tryz.ntmps143
    go_wp2_with (first
      | (go_at_call 64; with_reducible refine c.mono ?_; intro e w' h'; unfold CountPost at h'; obtain ⟨rfl, hP, hW⟩ := h'; have d0 := hP.cell0)
      | (go_at_call 144; with_reducible refine (cas_any hP.mem a old v v0 v1).mono ?_; rintro e w3 ⟨rfl, hM, hW3⟩))
    go_ret
    exact ⟨rfl, hP.memory hM (casL_len _ _ _ _) hW3, mem_rng hP.place hW hW3⟩
end Go.Proofs.YteokghghpmppnaaGreatDoor
