/- The document's example of an MCS lock; a new lock and its port. -/
import Derived.Test.YtpaihjlohcakjaaLockFine
import Derived.Test.YtpaihjlohcakjaaMcsOrd
import Derived.Laws.StructEq
namespace Go.Proofs.Ytpaihjlohcakjaa
open Go.RowKit Go.BigFrame
set_option linter.unusedVariables false
set_option maxRecDepth 100000

/-! ### a new lock and its port -/
abbrev zerosC (n : Nat) : List Int := [0] ++ List.replicate (2 * n) 0
abbrev homesC (zs : List Int) : List Int := [zs.getD 0 0] ++ dbl zs
def newF (n t : Nat) : FL := ⟨newSeat n false true, fun _ => 0, fun _ => 0, newS t (zerosC n)⟩
theorem getD_ok {zs : List Int} (h : homesOK zs = true) (i : Nat) : okH (zs.getD i 0) = true := by
  unfold homesOK at h
  rw [List.all_eq_true] at h
  by_cases hi : i < zs.length
  · exact h _ (by rw [List.getD_eq_getElem?_getD, List.getElem?_eq_getElem hi]; exact List.getElem_mem hi)
  · rw [List.getD_eq_getElem?_getD, List.getElem?_eq_none (by omega)]; rfl
theorem homesC_ok {zs : List Int} (h : homesOK zs = true) : homesOK (homesC zs) = true := by
  have h0 := getD_ok h 0
  unfold homesOK at h ⊢
  unfold homesC dbl
  rw [List.all_eq_true] at h ⊢
  intro x hx
  rw [List.mem_append, List.mem_singleton, List.mem_flatMap] at hx
  rcases hx with rfl | ⟨z, hz, hx⟩
  · exact h0
  · have : x = z := by simpa using hx
    rw [this]; exact h z hz
theorem zerosC_at (n j : Nat) : (zerosC n).getD j 0 = 0 := by
  match j with
  | 0 => rfl
  | j + 1 =>
    show (List.replicate (2 * n) (0 : Int)).getD j 0 = 0
    rw [List.getD_eq_getElem?_getD, List.getElem?_replicate]
    split <;> rfl
theorem zerosC_len (n : Nat) : (zerosC n).length = 2 * n + 1 := by simp [zerosC]
theorem homesC_len (zs : List Int) : (homesC zs).length = 2 * zs.length + 1 := by unfold homesC; rw [List.length_append, dbl_len]; simp; omega
/-- behind New and Port: a lock and its port -/
def MadePost (w0 : World) (n : Nat) (L : Lp) (w' : World) : Prop := L.a1 = 0 ∧ L.a2 = 1 ∧ LkP w0 w' L (newF n n)
theorem fl_port {w0 w w1 : World} {q q' : Pl} {n : Nat} {zs : List Int} {L0 : Lp} (h0 : Wrote Nil w0 w) (hq : ∀ k, q.F k → w0.heap.size ≤ k) (n1 : 1 ≤ n) (n2 : n ≤ 64) (ho : homesOK zs = true) (hn : zs.length = n)
    (hR : FlRaw w1 L0 (.pointer none) (newSeat n false true) (fun _ => 0) (fun _ => 0)) (hl : w.heap.size ≤ L0.lb ∧ w.heap.size ≤ L0.p ∧ w.heap.size ≤ L0.b ∧ w.heap.size ≤ L0.tb) (h1 : L0.a1 = 0) (h2 : L0.a2 = 1) (hqq : q'.p = q.p) (hP : PlanAt w1 q' n (homesC zs) (zerosC n)) (hW : Wrote q.F w w1) (hne : q.p < w.heap.size) :
    Calls Try.prog 11 #[.pointer (some ⟨q.p, 0, none⟩)] w1 fun e w' => ∃ L : Lp, e = .returned (.tuple #[.pointer (some ⟨L.q.p, 0, none⟩), .int .i64 0]) ∧ MadePost w0 n L w' ∧ L.lb = L0.lb ∧ L.hs = homesC zs ∧ w'.cell? ⟨q.p, 1, none⟩ = some (.int .i64 ((2 * n + 1 : Nat) : Int)) ∧ ¬ LF L q.p ∧ q.p ≠ L.lb := by
  have c := plport_good hP (fun j => by rw [zerosC_at]; decide) n1 n2 (by rw [homesC_len]; omega) (homesC_ok ho)
  have hp1 := hP.cell1
  rw [hqq, homesC_len, hn] at hp1
  rw [hqq] at c
  refine c.mono ?_
  rintro e w' ⟨qq, rfl, hA, hk0, hk3, hW2⟩
  have s0 := h0.size
  have s1 := hW.size
  refine ⟨{ L0 with q := qq, hs := homesC zs }, rfl, ⟨h1, h2, ?_⟩, rfl, rfl, hW2.old hp1, fun e => ?_, by dsimp only; omega⟩
  · exact lp_made (f := newF n n) hR (by omega) (h0.trans hW fun k hk e => by have := hq k e; unfold Nil; omega) hA hk0 hk3 hW2
  · unfold LF Rng at e
    dsimp only at e
    omega

/-! ### the document's example -/
abbrev f1 (L : Lp) : FL := (newF 1 1).lock 0 (-1)
abbrev f2 (L : Lp) : FL := (f1 L).step L 0 0
abbrev f3 (L : Lp) : FL := (f2 L).step L 0 0
abbrev f4 (L : Lp) : FL := (f3 L).turn 0 3
abbrev f5 (L : Lp) : FL := (f4 L).step L 0 0
structure ExAll (L : Lp) : Prop where
  l1 : lockE (newF 1 1).s 0 (-1) = 0
  d1 : (f1 L).did L 0 0 = Dd.no
  d2 : (f2 L).did L 0 0 = ⟨1, true, false, false⟩
  u3 : turnE (f3 L).s 0 = 0
  d4 : (f4 L).did L 0 0 = Dd.no
  d5 : (f5 L).did L 0 0 = ⟨3, false, false, false⟩
  a1 : (f1 L).ps.D.length < 4611686018427387904
  a2 : (f2 L).ps.D.length < 4611686018427387904
  a4 : (f4 L).ps.D.length < 4611686018427387904
  a5 : (f5 L).ps.D.length < 4611686018427387904
theorem ex_all (L : Lp) (h1 : L.a1 = 0) (h2 : L.a2 = 1) : ExAll L := by
  obtain ⟨a, b, c, d, x, y, q, hs⟩ := L
  obtain rfl : x = 0 := h1
  obtain rfl : y = 1 := h2
  exact ⟨by decide, rfl, rfl, rfl, rfl, by kernel_rfl, (by decide : (0 : Nat) < 4611686018427387904), (by decide : (1 : Nat) < 4611686018427387904), (by decide : (2 : Nat) < 4611686018427387904), (by decide : (3 : Nat) < 4611686018427387904)⟩
/-- a lock, and what one cell of another block holds -/
structure AwSt (w0 w : World) (L : Lp) (f : FL) (pp : Nat) (m : Int) : Prop where
  ls : LkS w0 w L f
  pl : w.cell? ⟨pp, 1, none⟩ = some (.int .i64 m)
  ne : ¬ LF L pp ∧ pp ≠ L.lb
def AwPost (w0 w : World) (L : Lp) (f : FL) (pp : Nat) (m : Int) (v : Value) (e : Ending) (w' : World) : Prop := e = .returned v ∧ AwSt w0 w' L f pp m ∧ Wrote (LF L) w w'
section
variable {w0 w : World} {L : Lp} {f : FL} {pp : Nat} {m : Int}
theorem aw_use (h : LkP w0 w L f) (hp : w.cell? ⟨pp, 1, none⟩ = some (.int .i64 m)) (hn : ¬ LF L pp ∧ pp ≠ L.lb) :
    Calls Try.prog 23 #[.pointer (some ⟨L.lb, 0, none⟩), .pointer (some ⟨L.q.p, 0, none⟩)] w fun e w' => e = .returned (.tuple #[]) ∧ AwSt w0 w' L f pp m := by
  have hr := h.raw
  have h1 := h.far
  have h2 := h.port.place.le
  have h3 := h.low
  refine (fl_use h.raw ⟨L.q.p, 0, none⟩).mono ?_
  rintro e w' ⟨rfl, rfl⟩
  have hW : Wrote (One L.lb) w (w.setCell ⟨L.lb, 1, none⟩ (.pointer (some ⟨L.q.p, 0, none⟩))) := (Wrote.refl _ w).setCell _ _ fun _ => rfl
  exact ⟨rfl, ⟨⟨hr.use _, h.port.wrote hW fun b b1 _ e => by unfold One at e; omega, h.far, Nat.le_trans h.top hW.size⟩, h.low, h.wr.trans hW fun b hb e => by unfold One at e; unfold Nil; omega⟩, hW.cell hp (fun e => hn.2 e), hn⟩
theorem aw_lock (h : AwSt w0 w L f pp m) (t d : Int) : Calls Try.prog 24 #[.pointer (some ⟨L.p, 0, none⟩), .int .i64 t, .int .i64 d] w (AwPost w0 w L (f.lock t d) pp m (.int .i64 (lockE f.s t d))) :=
  (se_lock h.ls.lk.raw.seat t d).mono fun e w' ⟨he, hS, hW⟩ => ⟨he, ⟨h.ls.call (h.ls.lk.seats hS (SS.lock_k _ _ _ _) hW) (lf_b hW), (lf_b hW).cell h.pl h.ne.1, h.ne⟩, lf_b hW⟩
theorem aw_unlock (h : AwSt w0 w L f pp m) (t : Int) : Calls Try.prog 26 #[.pointer (some ⟨L.p, 0, none⟩), .int .i64 t] w (AwPost w0 w L (f.turn t 3) pp m (.int .i64 (turnE f.s t))) :=
  (se_unlock h.ls.lk.raw.seat t).mono fun e w' ⟨he, hS, hW⟩ => ⟨he, ⟨h.ls.call (h.ls.lk.seats hS (SS.turn_k _ _ _ _) hW) (lf_b hW), (lf_b hW).cell h.pl h.ne.1, h.ne⟩, lf_b hW⟩
theorem aw_step (h : AwSt w0 w L f pp m) (t u x : Int) (hD : f.ps.D.length < 4611686018427387904) : Calls Try.prog 25 #[.pointer (some ⟨L.lb, 0, none⟩), .int .i64 t, .int .i64 u, .int .i64 x] w (AwPost w0 w L (f.step L t u) pp m (f.did L t u).val) :=
  (fl_step h.ls.lk t u x hD).mono fun e w' ⟨he, hl, hW⟩ => ⟨he, ⟨h.ls.call hl hW, hW.cell h.pl h.ne.1, h.ne⟩, hW⟩
theorem aw_after {w' : World} (h : AwSt w0 w L f pp m) (k : Wrote Nil w w') : AwSt w0 w' L f pp m := ⟨h.ls.after k, k.old h.pl, h.ne⟩
/-- and the block of what a step told -/
structure AwD (w0 w : World) (L : Lp) (f : FL) (pp : Nat) (m : Int) (B : Nat) : Prop where
  aw : AwSt w0 w L f pp m
  blk : w.heap[B]? = some (.cells #[.int .i64 1, .bool true, .bool false, .bool false] 61 (0, 0))
  far : ¬ LF L B
theorem awd_start (h : AwSt w0 w L f pp m) : AwD w0 (w.alloc (.cells #[.int .i64 1, .bool true, .bool false, .bool false] 61)) L f pp m w.heap.size :=
  ⟨aw_after h ((Wrote.refl _ w).alloc _), Go.Deep.blk_alloc_new w _, fun e => Nat.lt_irrefl _ (h.ls.lk.lf_lt e)⟩
theorem AwD.call {w' : World} {f' : FL} {B : Nat} (h : AwD w0 w L f pp m B) (k : AwSt w0 w' L f' pp m) (hW : Wrote (LF L) w w') : AwD w0 w' L f' pp m B := ⟨k, (hW.block B (blk_lt h.blk) h.far).trans h.blk, h.far⟩
theorem AwD.cell {B : Nat} (h : AwD w0 w L f pp m B) : w.cell? ⟨B, 0, none⟩ = some (.int .i64 1) ∧ w.cell? ⟨B, 1, none⟩ = some (.bool true) ∧ w.cell? ⟨B, 2, none⟩ = some (.bool false) ∧ w.cell? ⟨B, 3, none⟩ = some (.bool false) := by
  rw [blk_cell h.blk, blk_cell h.blk, blk_cell h.blk, blk_cell h.blk]; exact ⟨rfl, rfl, rfl, rfl⟩
end
theorem pl_len {w : World} {pp : Nat} {m : Int} (h : w.cell? ⟨pp, 1, none⟩ = some (.int .i64 m)) : Calls Try.prog 19 #[.pointer (some ⟨pp, 0, none⟩)] w fun e w' => e = .returned (.int .i64 m) ∧ w = w' := by
  go_enter Try.func19, Try.ntmps19
  go_wp2
  go_ret
  exact ⟨rfl, rfl⟩
theorem row_zero (w : World) : RowAt .i64 (w.alloc (.cells #[.int .i64 0] 3)) (some ⟨w.heap.size, 0, none⟩) 1 [0] := by
  refine ⟨rfl, fun e => (by cases e), fun b hb j hj => ?_⟩
  have e : j = 0 := by omega
  subst e
  cases hb
  exact (blk_cell (Go.Deep.blk_alloc_new w (.cells #[.int .i64 0] 3)) 0).trans rfl
set_option maxHeartbeats 4000000 in
theorem fl_awake (w : World) : Calls Try.prog 8 #[] w (AwakePost w) := by
  go_enter Try.func8, Try.ntmps8
  go_wp2_with (first
    | (go_at_call 9; with_reducible refine (plnew_any 1 w).mono ?_; rintro e w1 ⟨q, rfl, hP, hnew, hW1⟩; have H1 := Lib.hid (And.intro hP (And.intro hnew hW1)); clear hP hnew hW1)
    | (go_at_call 10; ((with_reducible refine (fn_new (H1.out.1.after ((Wrote.refl Nil w1).alloc (.cells #[.int .i64 0] 3))) (zs := [0]) (row_zero w1) rfl (Nat.le_refl 1) (by decide) (Nat.zero_le _) (fun e => by have := H1.out.1.lt e; omega)).mono ?_); intro e w2 hq; unfold NewMcsPost at hq; obtain ⟨L0, q2, he, hR, hl, ha1, ha2, hqq, hP2, hW2, hC2⟩ := hq; obtain ⟨lb, hlb0⟩ : ∃ lb, lb = L0.lb := ⟨_, rfl⟩; rw [← hlb0] at he; subst he; have HB := Lib.hid hlb0; clear hlb0; have cP := fl_port (zs := [0]) (w0 := w) (H1.out.2.2.nil ((Wrote.refl Nil w1).alloc (.cells #[.int .i64 0] 3))) H1.out.2.1 (Nat.le_refl 1) (by decide) rfl rfl hR hl ha1 ha2 hqq hP2 hW2 (by rw [Go.Deep.nblk_alloc]; have := blk_lt H1.out.1.obj; omega); clear hR hl ha1 ha2 hqq hP2 hW2 hC2))
    | (go_at_call 11; (with_reducible refine cP.mono ?_); clear cP; rintro e w3 ⟨L, rfl, ⟨ha1, ha2, hL⟩, hlb, _, hp1, hp2⟩; rw [← HB.out] at hlb; clear HB; subst hlb; have HA := Lib.hid (ex_all L ha1 ha2); have H2 := Lib.hid (And.intro hL (And.intro hp1 hp2)); clear ha1 ha2 hL hp1 hp2)
    | (go_at_call 23; ((with_reducible refine (aw_use H2.out.1 H2.out.2.1 H2.out.2.2).mono ?_); rintro e w4 ⟨rfl, hL⟩; clear H2; have c0 := hL.ls.cell0; have H3 := Lib.hid hL; clear hL))
    | (go_at_call 24; (with_reducible refine (aw_lock H3.out 0 (-1)).mono ?_); intro e w5 hq; unfold AwPost at hq; obtain ⟨rfl, hL, _⟩ := hq; rw [HA.out.l1]; clear H3; have H4 := Lib.hid hL; clear hL)
    | (go_at_call 25; (with_reducible refine (aw_step H4.out 0 0 0 HA.out.a1).mono ?_); intro e w6 hq; unfold AwPost at hq; obtain ⟨rfl, hL, _⟩ := hq; rw [HA.out.d1]; dsimp only [Dd.val, Dd.no]; clear H4; have H5 := Lib.hid hL; clear hL)
    | (go_at_call 25; (with_reducible refine (aw_step H5.out 0 0 0 HA.out.a2).mono ?_); intro e w7 hq; unfold AwPost at hq; obtain ⟨rfl, hL, _⟩ := hq; rw [HA.out.d2]; dsimp only [Dd.val]; clear H5; have hD := awd_start hL; have c1 := hD.aw.ls.cell0; have H6 := Lib.hid hD; clear hL hD)
    | (go_at_call 26; (with_reducible refine (aw_unlock H6.out.aw 0).mono ?_); intro e w8 hq; unfold AwPost at hq; obtain ⟨rfl, hL, hW⟩ := hq; rw [HA.out.u3]; have hD := H6.out.call hL hW; clear H6; have H7 := Lib.hid hD; clear hL hW hD)
    | (go_at_call 25; (with_reducible refine (aw_step H7.out.aw 0 0 0 HA.out.a4).mono ?_); intro e w9 hq; unfold AwPost at hq; obtain ⟨rfl, hL, hW⟩ := hq; rw [HA.out.d4]; dsimp only [Dd.val, Dd.no]; have hD := H7.out.call hL hW; clear H7; obtain ⟨b0, b1, b2, b3⟩ := hD.cell; have H8 := Lib.hid hD; clear hL hW hD)
    | (go_at_call 25; (with_reducible refine (aw_step H8.out.aw 0 0 0 HA.out.a5).mono ?_); intro e w10 hq; unfold AwPost at hq; obtain ⟨rfl, hL, hW⟩ := hq; rw [HA.out.d5]; dsimp only [Dd.val]; clear H8; have cN := pl_len hL.pl; have H9 := Lib.hid hL; clear hL hW)
    | (go_at_call 19; (with_reducible refine cN.mono ?_); rintro e w11 ⟨rfl, rfl⟩))
  go_ret
  exact ⟨rfl, H9.out.ls.wr⟩
theorem ord_new (n : Nat) (hn : n ≤ 8) : OrdJ (newF n n) none [] := by
  have hz : ∀ i, ((newF n n).ps.ws).getD i 0 = 0 := zerosC_at n
  refine ⟨hn, zerosC_len n, by simp [newF, newS, newSeat], ⟨by simp, by simp, hz 0, fun j => ⟨Int.le_refl _, by show (0 : Int) ≤ 4; decide⟩, fun j hj hs => by simp [newF, newSeat] at hs, fun j hj _ _ => rfl, fun j hj _ => by show (0 : Int) ≤ 3; decide, fun k hk => (by cases hk), by simp, fun k hk _ => .inl rfl, trivial, fun j hj _ hp => by simp [newF] at hp, fun _ k r e => by simp at e, fun k hk => (by cases hk), fun k hk => (by cases hk)⟩⟩
end Go.Proofs.Ytpaihjlohcakjaa
