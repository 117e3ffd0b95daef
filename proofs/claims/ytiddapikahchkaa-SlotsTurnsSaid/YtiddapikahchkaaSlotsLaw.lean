/- The document's example of a lock with slots; a new lock and its port. -/
import Derived.Test.YtiddapikahchkaaLockFine
import Derived.Test.YtiddapikahchkaaSlotsOrd
namespace Go.Proofs.Ytiddapikahchkaa
open Go.RowKit Go.BigFrame
set_option linter.unusedVariables false
set_option maxRecDepth 100000

/-! ### a new lock and its port -/
def newF (n t sz z : Nat) (v : Int) : FL := ⟨newSeat n false false, sz, fun _ => 0, fun _ => 0, newS t ([v] ++ slotR z sz)⟩
def homesS (zs : List Int) (n sz : Nat) : List Int := [zs.getD 0 0] ++ homeR zs n sz
theorem getD_ok {zs : List Int} (h : homesOK zs = true) (i : Nat) : okH (zs.getD i 0) = true := by
  unfold homesOK at h
  rw [List.all_eq_true] at h
  by_cases hi : i < zs.length
  · exact h _ (by rw [List.getD_eq_getElem?_getD, List.getElem?_eq_getElem hi]; exact List.getElem_mem hi)
  · rw [List.getD_eq_getElem?_getD, List.getElem?_eq_none (by omega)]; rfl
theorem homesS_ok {zs : List Int} (h : homesOK zs = true) (n sz : Nat) : homesOK (homesS zs n sz) = true := by
  unfold homesOK homesS homeR
  rw [List.all_eq_true]
  intro x hx
  rw [List.mem_append, List.mem_singleton, List.mem_map] at hx
  rcases hx with rfl | ⟨i, _, rfl⟩
  · exact getD_ok h 0
  · exact getD_ok h _
theorem homesS_len (zs : List Int) (n sz : Nat) : (homesS zs n sz).length = sz + 1 := by unfold homesS; rw [List.length_append, homeR_len]; simp; omega
theorem slotR_rng (z sz j : Nat) : 0 ≤ (slotR z sz).getD j 0 ∧ (slotR z sz).getD j 0 < 4294967296 := by
  by_cases hj : j < sz
  · have e : (slotR z sz).getD j 0 = if z = j then 1 else 0 := by simp [slotR, hj]
    rw [e]
    split <;> decide
  · rw [List.getD_eq_getElem?_getD, List.getElem?_eq_none (by simp [slotR]; omega)]; decide
theorem vals_rng {v : Int} (hv : 0 ≤ v ∧ v < 4294967296) (z sz j : Nat) : 0 ≤ ([v] ++ slotR z sz).getD j 0 ∧ ([v] ++ slotR z sz).getD j 0 < 4294967296 := by
  match j with
  | 0 => exact hv
  | j + 1 => exact slotR_rng z sz j
/-- behind New and Port: a lock and its port -/
def MadePost (w0 : World) (n sz z : Nat) (v : Int) (L : Lp) (w' : World) : Prop := L.a1 = 0 ∧ L.a2 = 1 ∧ LkP w0 w' L (newF n n sz z v)
theorem fl_port {w0 w w1 : World} {q q' : Pl} {n sz z : Nat} {zs : List Int} {v : Int} {L0 : Lp} (h0 : Wrote Nil w0 w) (hq : ∀ k, q.F k → w0.heap.size ≤ k) (n1 : 1 ≤ n) (n2 : n ≤ 64) (ho : homesOK zs = true) (siz : sizeB sz = true) (hv : 0 ≤ v ∧ v < 4294967296)
    (hR : FlRaw w1 L0 (.pointer none) (newSeat n false false) sz (fun _ => 0) (fun _ => 0)) (hl : w.heap.size ≤ L0.lb ∧ w.heap.size ≤ L0.p ∧ w.heap.size ≤ L0.b ∧ w.heap.size ≤ L0.tb) (h1 : L0.a1 = 0) (h2 : L0.a2 = 1) (hqq : q'.p = q.p) (hP : PlanAt w1 q' n (homesS zs n sz) ([v] ++ slotR z sz)) (hW : Wrote q.F w w1) (hne : q.p < w.heap.size) :
    Calls Try.prog 13 #[.pointer (some ⟨q.p, 0, none⟩)] w1 fun e w' => ∃ L : Lp, e = .returned (.tuple #[.pointer (some ⟨L.q.p, 0, none⟩), .int .i64 0]) ∧ MadePost w0 n sz z v L w' ∧ L.lb = L0.lb ∧ L.hs = homesS zs n sz ∧ w'.cell? ⟨q.p, 1, none⟩ = some (.int .i64 ((sz + 1 : Nat) : Int)) ∧ ¬ LF L q.p ∧ q.p ≠ L.lb := by
  have s64 := (size_le siz).2
  have c := plport_good hP (vals_rng hv z sz) n1 n2 (by rw [homesS_len]; omega) (homesS_ok ho n sz)
  have hp1 := hP.cell1
  rw [hqq, homesS_len] at hp1
  rw [hqq] at c
  refine c.mono ?_
  rintro e w' ⟨qq, rfl, hA, hk0, hk3, hW2⟩
  have s0 := h0.size
  have s1 := hW.size
  refine ⟨{ L0 with q := qq, hs := homesS zs n sz }, rfl, ⟨h1, h2, ?_⟩, rfl, rfl, hW2.old hp1, fun e => ?_, by dsimp only; omega⟩
  · exact lp_made (f := newF n n sz z v) hR (by omega) (h0.trans hW fun k hk e => by have := hq k e; unfold Nil; omega) hA hk0 hk3 hW2
  · unfold LF Rng at e
    dsimp only at e
    omega

/-! ### the document's example -/
theorem ex_all (L : Lp) (h1 : L.a1 = 0) (h2 : L.a2 = 1) : lockE (newF 2 2 2 1 5).s 0 (-1) = 0 ∧ ((newF 2 2 2 1 5).lock 0 (-1)).did L 0 0 = ⟨0, true, false, false⟩ ∧ (((newF 2 2 2 1 5).lock 0 (-1)).step L 0 0).did L 0 0 = ⟨0, false, false, false⟩ ∧ ((((newF 2 2 2 1 5).lock 0 (-1)).step L 0 0).step L 0 0).did L 0 0 = ⟨1, false, false, false⟩ ∧
    ((newF 2 2 2 1 5).lock 0 (-1)).ps.D.length < 4611686018427387904 ∧ (((newF 2 2 2 1 5).lock 0 (-1)).step L 0 0).ps.D.length < 4611686018427387904 ∧ ((((newF 2 2 2 1 5).lock 0 (-1)).step L 0 0).step L 0 0).ps.D.length < 4611686018427387904 := by
  obtain ⟨a, b, c, d, x, y, q, hs⟩ := L
  obtain rfl : x = 0 := h1
  obtain rfl : y = 1 := h2
  exact ⟨by decide, rfl, rfl, rfl, (by decide : (0 : Nat) < 4611686018427387904), (by decide : (1 : Nat) < 4611686018427387904), (by decide : (2 : Nat) < 4611686018427387904)⟩
/-- a lock, and what one cell of another block holds -/
structure AwSt (w0 w : World) (L : Lp) (f : FL) (pp : Nat) (m : Int) : Prop where
  ls : LkS w0 w L f
  pl : w.cell? ⟨pp, 1, none⟩ = some (.int .i64 m)
  ne : ¬ LF L pp ∧ pp ≠ L.lb
def AwPost (w0 : World) (L : Lp) (f : FL) (pp : Nat) (m : Int) (v : Value) (e : Ending) (w' : World) : Prop := e = .returned v ∧ AwSt w0 w' L f pp m
section
variable {w0 w : World} {L : Lp} {f : FL} {pp : Nat} {m : Int}
theorem aw_use (h : LkP w0 w L f) (hp : w.cell? ⟨pp, 1, none⟩ = some (.int .i64 m)) (hn : ¬ LF L pp ∧ pp ≠ L.lb) :
    Calls Try.prog 20 #[.pointer (some ⟨L.lb, 0, none⟩), .pointer (some ⟨L.q.p, 0, none⟩)] w (AwPost w0 L f pp m (.tuple #[])) := by
  have hr := h.raw
  have h1 := h.far
  have h2 := h.port.place.le
  have h3 := h.low
  refine (fl_use h.raw ⟨L.q.p, 0, none⟩).mono ?_
  rintro e w' ⟨rfl, rfl⟩
  have hW : Wrote (One L.lb) w (w.setCell ⟨L.lb, 1, none⟩ (.pointer (some ⟨L.q.p, 0, none⟩))) := (Wrote.refl _ w).setCell _ _ fun _ => rfl
  exact ⟨rfl, ⟨⟨hr.use _, h.port.wrote hW fun b b1 _ e => by unfold One at e; omega, h.far, Nat.le_trans h.top hW.size⟩, h.low, h.wr.trans hW fun b hb e => by unfold One at e; unfold Nil; omega⟩, hW.cell hp (fun e => hn.2 e), hn⟩
theorem aw_lock (h : AwSt w0 w L f pp m) (t d : Int) : Calls Try.prog 21 #[.pointer (some ⟨L.p, 0, none⟩), .int .i64 t, .int .i64 d] w (AwPost w0 L (f.lock t d) pp m (.int .i64 (lockE f.s t d))) :=
  (se_lock h.ls.lk.raw.seat t d).mono fun e w' ⟨he, hS, hW⟩ => ⟨he, h.ls.call (h.ls.lk.seats hS (SS.lock_k _ _ _) hW) (lf_b hW), (lf_b hW).cell h.pl h.ne.1, h.ne⟩
theorem aw_step (h : AwSt w0 w L f pp m) (t u x : Int) (hD : f.ps.D.length < 4611686018427387904) : Calls Try.prog 23 #[.pointer (some ⟨L.lb, 0, none⟩), .int .i64 t, .int .i64 u, .int .i64 x] w (AwPost w0 L (f.step L t u) pp m (f.did L t u).val) :=
  (fl_step h.ls.lk t u x hD).mono fun e w' ⟨he, hl, hW⟩ => ⟨he, h.ls.call hl hW, hW.cell h.pl h.ne.1, h.ne⟩
theorem aw_after {w' : World} (h : AwSt w0 w L f pp m) (k : Wrote Nil w w') : AwSt w0 w' L f pp m := ⟨h.ls.after k, k.old h.pl, h.ne⟩
end
theorem pl_len {w : World} {pp : Nat} {m : Int} (h : w.cell? ⟨pp, 1, none⟩ = some (.int .i64 m)) : Calls Try.prog 27 #[.pointer (some ⟨pp, 0, none⟩)] w fun e w' => e = .returned (.int .i64 m) ∧ w = w' := by
  go_enter Try.func27, Try.ntmps27
  go_wp2
  go_ret
  exact ⟨rfl, rfl⟩

theorem row_two (w : World) : RowAt .i64 (w.alloc (.cells #[.int .i64 0, .int .i64 0] 3)) (some ⟨w.heap.size, 0, none⟩) 2 [0, 0] := by
  refine ⟨rfl, fun e => (by cases e), fun b hb j hj => ?_⟩
  have e : j = 0 ∨ j = 1 := by omega
  cases hb
  rcases e with rfl | rfl
  · exact (blk_cell (Go.Deep.blk_alloc_new w (.cells #[.int .i64 0, .int .i64 0] 3)) 0).trans rfl
  · exact (blk_cell (Go.Deep.blk_alloc_new w (.cells #[.int .i64 0, .int .i64 0] 3)) 1).trans rfl
theorem fn_new2 {w : World} {q : Pl} {b : Nat} (h : PlanAt w q 2 [] []) (hr : RowAt .i64 w (some ⟨b, 0, none⟩) 2 [0, 0]) (hb : ¬ q.F b) :
    Calls Try.prog 12 #[.pointer (some ⟨q.p, 0, none⟩), .slice (some ⟨b, 0, none⟩) 2 2, .int .i64 2, .int .u32 5] w (NewSlotsPost w q 2 [] [] 2 2 1 [0, 0] 5) :=
  fn_new (sz := 2) (z := 1) h hr rfl (by decide) (by decide) rfl (by decide) (by decide) hb (by decide) rfl
set_option maxHeartbeats 4000000 in
theorem fl_awake (w : World) : Calls Try.prog 10 #[] w (AwakePost w) := by
  go_enter Try.func10, Try.ntmps10
  go_wp2_with (first
    | (go_at_call 11; with_reducible refine (plnew_any 2 w).mono ?_; rintro e w1 ⟨q, rfl, hP, hnew, hW1⟩; have H1 := Lib.hid (And.intro hP (And.intro hnew hW1)); clear hP hnew hW1)
    | (go_at_call 12; ((with_reducible refine (fn_new2 (H1.out.1.after ((Wrote.refl Nil w1).alloc (.cells #[.int .i64 0, .int .i64 0] 3))) (row_two w1) (fun e => by have := H1.out.1.lt e; omega)).mono ?_); intro e w2 hq; unfold NewSlotsPost at hq; obtain ⟨L0, q2, he, hR, hl, ha1, ha2, hqq, hP2, hW2, hC2⟩ := hq; obtain ⟨lb, hlb0⟩ : ∃ lb, lb = L0.lb := ⟨_, rfl⟩; rw [← hlb0] at he; subst he; have HB := Lib.hid hlb0; clear hlb0; have cP := fl_port (n := 2) (zs := [0, 0]) (w0 := w) (H1.out.2.2.nil ((Wrote.refl Nil w1).alloc (.cells #[.int .i64 0, .int .i64 0] 3))) H1.out.2.1 (by decide) (by decide) rfl rfl (by decide) hR hl ha1 ha2 hqq hP2 hW2 (by rw [Go.Deep.nblk_alloc]; have := blk_lt H1.out.1.obj; omega); clear hR hl ha1 ha2 hqq hP2 hW2 hC2))
    | (go_at_call 13; (with_reducible refine cP.mono ?_); clear cP; rintro e w3 ⟨L, rfl, ⟨ha1, ha2, hL⟩, hlb, _, hp1, hp2⟩; rw [← HB.out] at hlb; clear HB; subst hlb; have HA := Lib.hid (And.intro ha1 ha2); have H2 := Lib.hid (And.intro hL (And.intro hp1 hp2)); clear ha1 ha2 hL hp1 hp2)
    | (go_at_call 20; ((with_reducible refine (aw_use H2.out.1 H2.out.2.1 H2.out.2.2).mono ?_); intro e w4 hq; unfold AwPost at hq; obtain ⟨rfl, hL⟩ := hq; clear H2; have c0 := hL.ls.cell0; have H3 := Lib.hid hL; clear hL))
    | (go_at_call 21; (with_reducible refine (aw_lock H3.out 0 (-1)).mono ?_); intro e w5 hq; unfold AwPost at hq; obtain ⟨rfl, hL⟩ := hq; rw [(ex_all L HA.out.1 HA.out.2).1]; clear H3; have H4 := Lib.hid hL; clear hL)
    | (go_at_call 23; (with_reducible refine (aw_step H4.out 0 0 0 (ex_all L HA.out.1 HA.out.2).2.2.2.2.1).mono ?_); intro e w6 hq; unfold AwPost at hq; obtain ⟨rfl, hL⟩ := hq; rw [(ex_all L HA.out.1 HA.out.2).2.1]; dsimp only [Dd.val]; clear H4; have H5 := Lib.hid hL; clear hL)
    | (go_at_call 23; (with_reducible refine (aw_step H5.out 0 0 0 (ex_all L HA.out.1 HA.out.2).2.2.2.2.2.1).mono ?_); intro e w7 hq; unfold AwPost at hq; obtain ⟨rfl, hL⟩ := hq; rw [(ex_all L HA.out.1 HA.out.2).2.2.1]; dsimp only [Dd.val]; clear H5; have H6 := Lib.hid hL; clear hL)
    | (go_at_call 23; (with_reducible refine (aw_step H6.out 0 0 0 (ex_all L HA.out.1 HA.out.2).2.2.2.2.2.2).mono ?_); intro e w8 hq; unfold AwPost at hq; obtain ⟨rfl, hL⟩ := hq; rw [(ex_all L HA.out.1 HA.out.2).2.2.2.1]; dsimp only [Dd.val]; clear H6; have cN := pl_len hL.pl; have H7 := Lib.hid hL; clear hL)
    | (go_at_call 27; (with_reducible refine cN.mono ?_); rintro e w9 ⟨rfl, rfl⟩))
  go_ret
  exact ⟨rfl, H7.out.ls.wr⟩
theorem ord_new (n sz z : Nat) (v : Int) (h8 : n ≤ 8) (hn : n ≤ sz) (siz : sizeB sz = true) (hv : 0 ≤ v ∧ v < 4294967296) (hz : v % (sz : Int) = (z : Int)) : OrdJ (newF n n sz z v) none [] v.toNat v.toNat := by
  obtain ⟨x, rfl⟩ := Int.eq_ofNat_of_zero_le hv.1
  have hc : sz = 1 ∨ sz = 2 ∨ sz = 4 ∨ sz = 8 ∨ sz = 16 ∨ sz = 32 ∨ sz = 64 := by
    unfold sizeB at siz
    have := of_decide_eq_true siz
    omega
  have hz2 : x % sz = z := by
    rw [← Int.natCast_emod] at hz
    exact Int.ofNat.inj hz
  refine ⟨h8, hn, ?_, by show sz ≤ 64; omega, rfl, ?_, by simp [newF, newS, newSeat], by simp, by simp, by simp, by simp, fun k hk => by simp [newF], fun k hk hp => by simp [newF] at hp, fun k => .inl rfl, fun k hk => by simp at hk, by simp, fun k hk _ => .inl rfl⟩
  · show sz ∣ 4294967296
    rcases hc with rfl | rfl | rfl | rfl | rfl | rfl | rfl <;> decide
  · show (x : Int) :: slotR z sz = _ :: slotsL sz (some ((x : Int).toNat % sz))
    rw [Int.toNat_natCast, hz2, slotR_all]
    congr 1
    omega
end Go.Proofs.Ytiddapikahchkaa
