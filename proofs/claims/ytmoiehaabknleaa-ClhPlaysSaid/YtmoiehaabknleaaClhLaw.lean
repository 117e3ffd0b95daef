/- The document's example of a CLH lock; a new lock and its port. -/
import Derived.Test.YtmoiehaabknleaaLockFine
import Derived.Test.YtmoiehaabknleaaClhOrd
import Derived.Laws.StructEq
namespace Go.Proofs.Ytmoiehaabknleaa
open Go.RowKit Go.BigFrame
set_option linter.unusedVariables false
set_option maxRecDepth 100000

/-! ### a new lock and its port -/
abbrev zerosC (n : Nat) : List Int := [0] ++ [0] ++ List.replicate n 0
abbrev homesC (zs : List Int) : List Int := [zs.getD 0 0] ++ [zs.getD 0 0] ++ zs
def newF (n t : Nat) : FL := ⟨newSeat n false true, fun _ => 0, nodeK n, fun _ => 0, newS t (zerosC n)⟩
theorem getD_ok {zs : List Int} (h : homesOK zs = true) (i : Nat) : okH (zs.getD i 0) = true := by
  unfold homesOK at h
  rw [List.all_eq_true] at h
  by_cases hi : i < zs.length
  · exact h _ (by rw [List.getD_eq_getElem?_getD, List.getElem?_eq_getElem hi]; exact List.getElem_mem hi)
  · rw [List.getD_eq_getElem?_getD, List.getElem?_eq_none (by omega)]; rfl
theorem homesC_ok {zs : List Int} (h : homesOK zs = true) : homesOK (homesC zs) = true := by
  have h0 := getD_ok h 0
  unfold homesOK at h ⊢
  unfold homesC
  rw [List.all_append, List.all_append, h, Bool.and_true]
  show ((okH (zs.getD 0 0) && true) && (okH (zs.getD 0 0) && true)) = true
  rw [h0]
  rfl
theorem zerosC_at (n j : Nat) : (zerosC n).getD j 0 = 0 := by
  match j with
  | 0 => rfl
  | 1 => rfl
  | j + 2 =>
    show (List.replicate n (0 : Int)).getD j 0 = 0
    rw [List.getD_eq_getElem?_getD, List.getElem?_replicate]
    split <;> rfl
theorem zerosC_len (n : Nat) : (zerosC n).length = n + 2 := by simp [zerosC]
/-- behind New and Port: a lock and its port -/
def MadePost (w0 : World) (n : Nat) (L : Lp) (w' : World) : Prop := L.a1 = 0 ∧ L.a2 = 1 ∧ LkP w0 w' L (newF n n)
theorem fl_port {w0 w w1 : World} {q q' : Pl} {n : Nat} {zs : List Int} {L0 : Lp} (h0 : Wrote Nil w0 w) (hq : ∀ k, q.F k → w0.heap.size ≤ k) (n1 : 1 ≤ n) (n2 : n ≤ 64) (ho : homesOK zs = true) (hn : zs.length = n)
    (hR : FlRaw w1 L0 (.pointer none) (newSeat n false true) (fun _ => 0) (nodeK n) (fun _ => 0)) (hl : w.heap.size ≤ L0.lb ∧ w.heap.size ≤ L0.p ∧ w.heap.size ≤ L0.b ∧ w.heap.size ≤ L0.tb) (h1 : L0.a1 = 0) (h2 : L0.a2 = 1) (hqq : q'.p = q.p) (hP : PlanAt w1 q' n (homesC zs) (zerosC n)) (hW : Wrote q.F w w1) :
    Calls Try.prog 12 #[.pointer (some ⟨q.p, 0, none⟩)] w1 fun e w' => ∃ L : Lp, e = .returned (.tuple #[.pointer (some ⟨L.q.p, 0, none⟩), .int .i64 0]) ∧ MadePost w0 n L w' ∧ L.lb = L0.lb ∧ L.hs = homesC zs := by
  have c := plport_good hP (fun j => by rw [zerosC_at]; decide) n1 n2 (by simp [homesC]; omega) (homesC_ok ho)
  rw [hqq] at c
  refine c.mono ?_
  rintro e w' ⟨qq, rfl, hA, hk0, hk3, hW2⟩
  have s0 := h0.size
  refine ⟨{ L0 with q := qq, hs := homesC zs }, rfl, ⟨h1, h2, ?_⟩, rfl, rfl⟩
  exact lp_made (f := newF n n) hR (by omega) (h0.trans hW fun k hk e => by have := hq k e; unfold Nil; omega) hA hk0 hk3 hW2
theorem ls_node {w0 w : World} {L : Lp} {f : FL} (h : LkS w0 w L f) (t : Int) : Calls Try.prog 18 #[.pointer (some ⟨L.lb, 0, none⟩), .int .i64 t] w fun e w' => e = .returned (.int .i64 (f.nodeI t)) ∧ w = w' := fl_node h.lk t

/-! ### the document's example -/
abbrev f1 (L : Lp) : FL := (newF 1 1).lock 0 (-1)
abbrev f2 (L : Lp) : FL := (f1 L).step L 0 0
abbrev f3 (L : Lp) : FL := (f2 L).step L 0 0
abbrev f4 (L : Lp) : FL := (f3 L).step L 0 0
abbrev f5 (L : Lp) : FL := (f4 L).turn 0 3
abbrev f6 (L : Lp) : FL := (f5 L).step L 0 0
structure ExAll (L : Lp) : Prop where
  l1 : lockE (newF 1 1).s 0 (-1) = 0
  d1 : (f1 L).did L 0 0 = Dd.no
  d2 : (f2 L).did L 0 0 = ⟨0, true, false, false⟩
  d3 : (f3 L).did L 0 0 = ⟨1, false, false, false⟩
  u4 : turnE (f4 L).s 0 = 0
  n5 : (f5 L).nodeI 0 = 1
  d5 : (f5 L).did L 0 0 = ⟨3, false, false, false⟩
  n6 : (f6 L).nodeI 0 = 0
  a1 : (f1 L).ps.D.length < 4611686018427387904
  a2 : (f2 L).ps.D.length < 4611686018427387904
  a3 : (f3 L).ps.D.length < 4611686018427387904
  a5 : (f5 L).ps.D.length < 4611686018427387904
theorem ord_new (n : Nat) (hn : n ≤ 8) : OrdJ (newF n n) none [] 0 := by
  have hk : ∀ j, j < n → nodeK n j = (j : Int) + 1 := fun j hj => by unfold nodeK; rw [if_pos hj]
  refine ⟨hn, fun j hj => ?_, ⟨Int.le_refl _, by show (0 : Int) ≤ (n : Int); omega⟩, fun j k hj hk2 e => ?_, fun j hj => ?_, ⟨List.replicate (n + 1) 0, rfl, by rw [List.length_replicate]; rfl, fun j hj => ?_, by simp⟩, by simp [newF, newS, newSeat], by simp, by simp, fun j hj => by simp [newF], fun j => .inl rfl, fun j hj hp => by simp [newF] at hp, trivial, fun k hk => (by cases hk), by simp, fun k hk _ => .inl rfl⟩
  · show 0 ≤ nodeK n j ∧ nodeK n j ≤ (n : Int)
    have hj : j < n := hj
    rw [hk j hj]; omega
  · have hj : j < n := hj
    have hk2 : k < n := hk2
    have e : nodeK n j = nodeK n k := e
    rw [hk j hj, hk k hk2] at e; omega
  · show nodeK n j ≠ 0
    have hj : j < n := hj
    rw [hk j hj]; omega
  · show (List.replicate (n + 1) (0 : Int)).getD _ 0 = if (0 : Int) = 0 then 0 else 1
    rw [if_pos rfl, List.getD_eq_getElem?_getD, List.getElem?_replicate]
    split <;> rfl
theorem nodeI_one (f : FL) (h : f.s.n = 1) : f.nodeI 0 = f.node 0 := by
  unfold FL.nodeI
  rw [if_pos (by omega)]
  rfl
theorem ex_all (L : Lp) (h1 : L.a1 = 0) (h2 : L.a2 = 1) : ExAll L := by
  obtain ⟨F1, hF1⟩ : ∃ F1, F1 = (newF 1 1).lock 0 (-1) := ⟨_, rfl⟩
  have ho1 : OrdJ F1 none [] 0 := by rw [hF1]; exact (ord_new 1 (by decide)).lock 0 (-1)
  have n1 : F1.s.n = 1 := by rw [hF1]; rfl
  have s1 : F1.s.st 0 = 1 := by rw [hF1]; rfl
  have p1 : F1.pc 0 = 0 := by rw [hF1]; rfl
  have m1 : F1.node 0 = 1 := by rw [hF1]; rfl
  have q1 : F1.ps.D.length = 0 := by rw [hF1]; rfl
  obtain ⟨d1, e1, w1, c1, l1⟩ := ho1.at_flag h2 (k := 0) (by omega) s1 p1
  have ho2 := ho1.flag (k := 0) (by omega) s1 p1 w1 c1
  obtain ⟨F2, hF2⟩ : ∃ F2, F2 = F1.step L 0 0 := ⟨_, rfl⟩
  have e1 : F2 = _ := hF2.trans e1
  rw [← e1] at ho2
  have n2 : F2.s.n = 1 := by rw [e1]; exact n1
  have s2 : F2.s.st 0 = 1 := by rw [e1]; exact s1
  have p2 : F2.pc 0 = 1 := by rw [e1]; show upd F1.pc 0 1 0 = 1; exact upd_same _ _ _
  have m2 : F2.node 0 = 1 := by rw [e1]; exact m1
  have q2 : F2.ps.D.length = 1 := by rw [e1]; exact l1.trans (by rw [q1])
  clear e1 w1 c1 l1
  obtain ⟨fl, w2', _⟩ := ho2.ws
  obtain ⟨d2, e2, w2, c2, l2⟩ := ho2.at_swap h1 (k := 0) (by omega) s2 p2 w2'
  have ho3 := ho2.enq (k := 0) (by omega) s2 p2 w2' w2 c2
  obtain ⟨F3, hF3⟩ : ∃ F3, F3 = F2.step L 0 0 := ⟨_, rfl⟩
  have e2 : F3 = _ := hF3.trans e2
  rw [← e2] at ho3
  have ho3 : OrdJ F3 none [0] 0 := ho3
  have n3 : F3.s.n = 1 := by rw [e2]; exact n2
  have s3 : F3.s.st 0 = 1 := by rw [e2]; exact s2
  have m3 : F3.node 0 = 1 := by rw [e2]; exact m2
  have q3 : F3.ps.D.length = 2 := by rw [e2]; exact l2.trans (by rw [q2])
  have v3 : F3.ahd 0 = 0 := ho3.ch.1
  clear e2 w2 c2 l2
  obtain ⟨d3, e3, w3, c3, l3⟩ := ho3.at_take h2 (by omega) s3
  have ho4 := ho3.grant w3 c3 0
  obtain ⟨F4, hF4⟩ : ∃ F4, F4 = F3.step L 0 0 := ⟨_, rfl⟩
  have e3 : F4 = _ := hF4.trans e3
  rw [← e3] at ho4
  have n4 : F4.s.n = 1 := by rw [e3]; exact n3
  have s4 : F4.s.st 0 = 2 := by rw [e3]; show upd F3.s.st 0 2 0 = 2; exact upd_same _ _ _
  have m4 : F4.node 0 = 1 := by rw [e3]; exact m3
  have q4 : F4.ps.D.length = 3 := by rw [e3]; exact l3.trans (by rw [q3])
  have v4 : F4.ahd 0 = 0 := by rw [e3]; exact v3
  clear e3 w3 c3 l3
  have u4 : turnE F4.s 0 = 0 := by
    unfold turnE
    rw [if_pos (by omega), show Int.toNat 0 = 0 from rfl, s4]
    rfl
  have ho5 := ho4.turn 0 3 (.inl rfl)
  obtain ⟨F5, hF5⟩ : ∃ F5, F5 = F4.turn 0 3 := ⟨_, rfl⟩
  rw [← hF5] at ho5
  have n5 : F5.s.n = 1 := by rw [hF5]; exact (SS.turn_n _ _ _).trans n4
  have s5 : F5.s.st 0 = 3 := by
    rw [hF5]
    show (F4.s.turn 0 3).st 0 = 3
    unfold SS.turn
    rw [if_pos u4]
    show upd F4.s.st 0 3 0 = 3
    exact upd_same _ _ _
  have m5 : F5.node 0 = 1 := by rw [hF5]; exact m4
  have q5 : F5.ps.D.length = 3 := by rw [hF5]; exact q4
  have v5 : F5.ahd 0 = 0 := by rw [hF5]; exact v4
  obtain ⟨d5, e5, _⟩ := ho5.at_free h2 (by omega) s5
  have g1 : f1 L = F1 := hF1.symm
  have g2 : f2 L = F2 := by rw [hF2, hF1]
  have g3 : f3 L = F3 := by rw [hF3, ← g2]
  have g4 : f4 L = F4 := by rw [hF4, ← g3]
  have g5 : f5 L = F5 := by rw [hF5, ← g4]
  have g6 : f6 L = F5.step L 0 0 := by rw [← g5]
  refine ⟨by decide, by rw [g1]; exact d1, by rw [g2]; exact d2, by rw [g3]; exact d3, by rw [g4]; exact u4, by rw [g5]; exact (nodeI_one _ n5).trans m5, by rw [g5]; exact d5, ?_, by rw [g1, q1]; decide, by rw [g2, q2]; decide, by rw [g3, q3]; decide, by rw [g5, q5]; decide⟩
  rw [g6]
  have e5 : F5.step L 0 0 = _ := e5
  rw [e5]
  have key : ∀ f : FL, f.s.n = 1 → f.node 0 = 0 → f.nodeI 0 = 0 := fun f h h2 => (nodeI_one f h).trans h2
  refine key _ n5 ?_
  show upd F5.node 0 (F5.ahd 0) 0 = 0
  rw [upd_same, v5]
theorem row_zero (w : World) : RowAt .i64 (w.alloc (.cells #[.int .i64 0] 3)) (some ⟨w.heap.size, 0, none⟩) 1 [0] := by
  refine ⟨rfl, fun e => (by cases e), fun b hb j hj => ?_⟩
  have e : j = 0 := by omega
  subst e
  cases hb
  exact (blk_cell (Go.Deep.blk_alloc_new w (.cells #[.int .i64 0] 3)) 0).trans rfl
set_option maxHeartbeats 4000000 in
theorem fl_awake (w : World) : Calls Try.prog 9 #[] w (AwakePost w) := by
  go_enter Try.func9, Try.ntmps9
  go_wp2_with (first
    | (go_at_call 10; with_reducible refine (plnew_any 1 w).mono ?_; rintro e w1 ⟨q, rfl, hP, hnew, hW1⟩; have H1 := Lib.hid (And.intro hP (And.intro hnew hW1)); clear hP hnew hW1)
    | (go_at_call 11; ((with_reducible refine (fn_new (H1.out.1.after ((Wrote.refl Nil w1).alloc (.cells #[.int .i64 0] 3))) (zs := [0]) (row_zero w1) rfl (Nat.le_refl 1) (by decide) (Nat.zero_le _) (fun e => by have := H1.out.1.lt e; omega)).mono ?_); intro e w2 hq; unfold NewClhPost at hq; obtain ⟨L0, q2, he, hR, hl, ha1, ha2, hqq, hP2, hW2, hC2⟩ := hq; obtain ⟨lb, hlb0⟩ : ∃ lb, lb = L0.lb := ⟨_, rfl⟩; rw [← hlb0] at he; subst he; have HB := Lib.hid hlb0; clear hlb0; have cP := fl_port (zs := [0]) (w0 := w) (H1.out.2.2.nil ((Wrote.refl Nil w1).alloc (.cells #[.int .i64 0] 3))) H1.out.2.1 (Nat.le_refl 1) (by decide) rfl rfl hR hl ha1 ha2 hqq hP2 hW2; clear hR hl ha1 ha2 hqq hP2 hW2 hC2))
    | (go_at_call 12; (with_reducible refine cP.mono ?_); clear cP; rintro e w3 ⟨L, rfl, ⟨ha1, ha2, hL⟩, hlb, _⟩; rw [← HB.out] at hlb; clear HB; subst hlb; have HA := Lib.hid (ex_all L ha1 ha2); have H2 := Lib.hid hL; clear ha1 ha2 hL)
    | (go_at_call 19; ((with_reducible refine (lp_use H2.out).mono ?_); rintro e w4 ⟨rfl, hL, _⟩; clear H2; have c0 := hL.cell0; have H3 := Lib.hid hL; clear hL))
    | (go_at_call 20; (with_reducible refine (ls_lock H3.out 0 (-1)).mono ?_); intro e w5 hq; unfold LsPost at hq; obtain ⟨rfl, hL, _⟩ := hq; rw [HA.out.l1]; clear H3; have c0' := hL.cell0; have H4 := Lib.hid hL; clear hL)
    | (go_at_call 22; (with_reducible refine (ls_step H4.out 0 0 0 HA.out.a1).mono ?_); intro e w6 hq; unfold LsPost at hq; obtain ⟨rfl, hL, _⟩ := hq; rw [HA.out.d1]; dsimp only [Dd.val, Dd.no]; clear H4; have c1' := hL.cell0; have H5 := Lib.hid hL; clear hL)
    | (go_at_call 22; (with_reducible refine (ls_step H5.out 0 0 0 HA.out.a2).mono ?_); intro e w7 hq; unfold LsPost at hq; obtain ⟨rfl, hL, _⟩ := hq; rw [HA.out.d2]; dsimp only [Dd.val]; clear H5; have c2' := hL.cell0; have H6 := Lib.hid hL; clear hL)
    | (go_at_call 22; (with_reducible refine (ls_step H6.out 0 0 0 HA.out.a3).mono ?_); intro e w8 hq; unfold LsPost at hq; obtain ⟨rfl, hL, _⟩ := hq; rw [HA.out.d3]; dsimp only [Dd.val]; clear H6; have hD8 := hL.after ((Wrote.refl Nil w8).alloc (.cells #[.int .i64 1, .bool false, .bool false, .bool false] 60)); have c3' := hD8.cell0; have H7 := Lib.hid (And.intro hD8 hL.lk.top); clear hL hD8)
    | (go_at_call 21; (with_reducible refine (ls_unlock H7.out.1 0).mono ?_); intro e w9 hq; unfold LsPost at hq; obtain ⟨rfl, hL, hW⟩ := hq; rw [HA.out.u4]; have hb := (hW.block w8.heap.size (Nat.lt_of_lt_of_eq (Nat.lt_succ_self _) (Go.Deep.nblk_alloc w8 _).symm) (fun e => by have := H7.out.2; unfold Low at e; omega)).trans (Go.Deep.blk_alloc_new w8 _); have b0 : w9.cell? ⟨w8.heap.size, 0, none⟩ = some (.int .i64 1) := (blk_cell hb 0).trans rfl; have b1 : w9.cell? ⟨w8.heap.size, 1, none⟩ = some (.bool false) := (blk_cell hb 1).trans rfl; have b2 : w9.cell? ⟨w8.heap.size, 2, none⟩ = some (.bool false) := (blk_cell hb 2).trans rfl; have b3 : w9.cell? ⟨w8.heap.size, 3, none⟩ = some (.bool false) := (blk_cell hb 3).trans rfl; clear H7 hb hW; have c4' := hL.cell0; have cN := ls_node hL 0; rw [HA.out.n5] at cN; have H8 := Lib.hid hL; clear hL)
    | (go_at_call 18; (with_reducible refine cN.mono ?_); rintro e w10 ⟨rfl, rfl⟩)
    | (go_at_call 22; clear cN; (with_reducible refine (ls_step H8.out 0 0 0 HA.out.a5).mono ?_); intro e w11 hq; unfold LsPost at hq; obtain ⟨rfl, hL, _⟩ := hq; rw [HA.out.d5]; dsimp only [Dd.val]; clear H8; have cM := ls_node hL 0; rw [HA.out.n6] at cM; have H9 := Lib.hid hL; clear hL)
    | (go_at_call 18; (with_reducible refine cM.mono ?_); rintro e w12 ⟨rfl, rfl⟩))
  go_ret
  exact ⟨rfl, H9.out.wr⟩
end Go.Proofs.Ytmoiehaabknleaa
