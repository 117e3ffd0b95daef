/- A step of the reference's lock is a lock's step; and its New, its words, its homes. -/
import Derived.Test.YtiddapikahchkaaSlotsRstep
import Derived.Test.YtiddapikahchkaaSlotsOrd
import Derived.Test.YtiddapikahchkaaSlotsNew
import Derived.Test.YtiddapikahchkaaGrow
import Derived.BigRegion
namespace Go.Proofs.Ytiddapikahchkaa
open Go.RowKit Go.BigFrame
set_option linter.unusedVariables false
set_option maxRecDepth 100000

def MmPost (w : World) (M : Mp) (bk : Nat) (dv : Value) (f : FL) (d : Dd) (e : Ending) (w' : World) : Prop :=
  e = .returned d.rval ∧ MlAt w' M f ∧ RefSt w' M.base M.pr f.ps ∧ Wrote (MG M bk dv) w w'
structure MmIn (w : World) (M : Mp) (bk : Nat) (so : Option Addr) (cap : Nat) (dv : Value) (f : FL) (L : Lp) : Prop where
  ml : MlAt w M f
  ref : RefAt w M.base M.pr bk so cap dv f.ps
  n1 : 1 ≤ f.s.n
  n2 : f.s.n ≤ 64
  hD : f.ps.D.length < 1000000
  hws : f.ps.ws.length ≤ 4096
  hac : f.ps.ac.length ≤ 64
  hb : M.base ≤ w.heap.size
  ha : 0 ≤ M.a ∧ M.a ≤ 4096
  hn : 1 ≤ f.sz ∧ f.sz ≤ 64
  l1 : L.a1 = M.a
  l2 : L.a2 = M.a + 1
  dr : ∀ k, k < f.s.n → f.s.st k = 3 → f.pc k ≠ 0
  rng : ∀ k, (f.pc k = 0 ∨ f.pc k = 1 ∨ f.pc k = 2) ∧ 0 ≤ f.own k ∧ f.own k < f.sz
  tell : ∀ u, 0 ≤ tellS f.ps u 5 M.a ∧ tellS f.ps u 5 M.a < 4294967296

/-- the reference's step and a lock's -/
theorem mid_ref {w : World} {M : Mp} {bk : Nat} {so : Option Addr} {cap : Nat} {dv : Value} {f : FL} {L : Lp} (h : MmIn w M bk so cap dv f L) {mi : Nat → Int} (hN : M.n = f.sz) (hag : ∀ k, k < f.s.n → f.pc k ≠ 0 → mi k = f.own k) {k : Nat} (hk : k < f.s.n) (u : Int) :
    (rmid M f.s f.pc mi f.ps k u).d = f.did L k u ∧ (rmid M f.s f.pc mi f.ps k u).ps = (f.mid L k u).ps ∧ rend f.s k (rmid M f.s f.pc mi f.ps k u) = (f.mid L k u).pc ∧ ∀ j, j < f.s.n → (f.mid L k u).pc j ≠ 0 → (rmid M f.s f.pc mi f.ps k u).mi j = (f.mid L k u).own j := by
  have ht : (0 : Int) ≤ (k : Int) ∧ (k : Int) < f.s.n := by omega
  unfold FL.did FL.mid rmid rend
  rw [if_pos ht, if_pos ht, Int.toNat_natCast]
  by_cases s3 : f.s.st k = 3
  · have s1 : ¬ f.s.st k = 1 := by omega
    rw [if_pos s3, if_neg s1, if_neg s1, if_pos s3, if_pos s3, if_pos s3]
    unfold FL.rel
    refine ⟨rfl, ?_, rfl, fun j hj hp => ?_⟩
    · show doS f.ps u 2 (M.a + 1 + (mi k + 1) % M.n) 0 1 = doS f.ps u 2 (L.a2 + (f.own k + 1) % f.sz) 0 1
      rw [hag k hk (h.dr k hk s3), hN, h.l2]
    · replace hp : upd f.pc k 0 j ≠ 0 := hp
      show mi j = upd f.own k 0 j
      by_cases e : j = k
      · subst e; rw [upd_same] at hp; exact absurd rfl hp
      · rw [upd_other _ _ e] at hp ⊢; exact hag j hj hp
  · rw [if_neg s3, if_neg s3]
    by_cases s1 : f.s.st k = 1
    · rw [if_pos s1, if_pos s1, if_pos s1]
      unfold FL.acq FL.acqD
      by_cases p0 : f.pc k = 0
      · rw [if_pos p0, if_pos p0, if_pos p0, h.l1, hN]
        refine ⟨rfl, rfl, if_neg s3, fun j hj hp => ?_⟩
        replace hp : upd f.pc k 1 j ≠ 0 := hp
        show upd mi k _ j = upd f.own k _ j
        by_cases e : j = k
        · subst e; rw [upd_same, upd_same]
        · rw [upd_other _ _ e] at hp; rw [upd_other _ _ e, upd_other _ _ e]; exact hag j hj hp
      · have em : mi k = f.own k := hag k hk p0
        rw [if_neg p0, if_neg p0, if_neg p0, em, h.l2]
        by_cases p1 : f.pc k = 1
        · rw [if_pos p1, if_pos p1, if_pos p1]
          split
          · exact ⟨rfl, rfl, by first | rfl | exact if_neg s3, hag⟩
          · refine ⟨rfl, rfl, by first | rfl | exact if_neg s3, fun j hj hp => ?_⟩
            replace hp : upd f.pc k 2 j ≠ 0 := hp
            by_cases e : j = k
            · subst e; exact em
            · rw [upd_other _ _ e] at hp; exact hag j hj hp
        · rw [if_neg p1, if_neg p1, if_neg p1]
          exact ⟨rfl, rfl, if_neg s3, hag⟩
    · rw [if_neg s1, if_neg s1, if_neg s1, if_neg s3, if_neg s3]
      exact ⟨rfl, rfl, by first | rfl | exact if_neg s3, hag⟩
set_option maxHeartbeats 4000000 in
theorem ml_out {w : World} {M : Mp} {bk : Nat} {so : Option Addr} {cap : Nat} {dv : Value} {s : SS} {p : Nat → Int} {mi : Nat → Int} {ps : PSta} (h : MsIn w M bk so cap dv s p mi ps) (t : Int) (ht : ¬ (0 ≤ t ∧ t < s.n)) (u x : Int) :
    Calls Try.prog 106 #[.pointer (some ⟨M.r, 0, none⟩), .pointer (some ⟨M.pr, 0, none⟩), .int .i64 t, .int .i64 u, .int .i64 x] w (MsPost w M bk dv s p mi ps Dd.no) := by
  have n2 := h.n2
  have kk : Wrote Nil w (w.alloc (.cells #[.int .i64 0, .int .i64 0, .int .i64 0, .int .i64 0] 130)) := (Wrote.refl _ w).alloc _
  have b2 := (h.raw.after kk).cell3
  have hB := Go.Deep.blk_alloc_new w (.cells #[.int .i64 0, .int .i64 0, .int .i64 0, .int .i64 0] 130)
  have HE := Lib.hid (And.intro (h.raw.after kk) (And.intro (h.ref.after kk fun _ _ => id) (And.intro hB kk)))
  clear h kk hB
  by_cases h0 : t < 0
  · go_enter Try.func106, Try.ntmps106
    go_wp2
    refine bodyPost_ret (v := Dd.rval Dd.no) (results_cell_row rfl _ _ w.heap.size 130 _ (0, 0) _ rfl HE.out.2.2.1 Try.underlying130 rfl i_rid) rfl ⟨rfl, HE.out.1, ⟨bk, so, cap, dv, HE.out.2.1⟩, HE.out.2.2.2.mono fun _ _ e => e.elim⟩
  · have h1 : (s.n : Int) ≤ t := by omega
    clear ht
    generalize s.n = n at *
    go_enter Try.func106, Try.ntmps106
    go_wp2
    refine bodyPost_ret (v := Dd.rval Dd.no) (results_cell_row rfl _ _ w.heap.size 130 _ (0, 0) _ rfl HE.out.2.2.1 Try.underlying130 rfl i_rid) rfl ⟨rfl, HE.out.1, ⟨bk, so, cap, dv, HE.out.2.1⟩, HE.out.2.2.2.mono fun _ _ e => e.elim⟩
theorem mm_step {w : World} {M : Mp} {bk : Nat} {so : Option Addr} {cap : Nat} {dv : Value} {f : FL} {L : Lp} (h : MmIn w M bk so cap dv f L) (t u x : Int) :
    Calls Try.prog 106 #[.pointer (some ⟨M.r, 0, none⟩), .pointer (some ⟨M.pr, 0, none⟩), .int .i64 t, .int .i64 u, .int .i64 x] w (MmPost w M bk dv (f.step L t u) (f.did L t u)) := by
  obtain ⟨mi, hraw, hN, hag⟩ := h.ml.raw
  have hin : MsIn w M bk so cap dv f.s f.pc mi f.ps := ⟨hraw, h.ref, h.n1, h.n2, h.hD, h.hws, h.hac, h.hb, h.ha, by rw [hN]; exact h.hn⟩
  by_cases ht : 0 ≤ t ∧ t < f.s.n
  · obtain ⟨k, rfl⟩ := Int.eq_ofNat_of_zero_le ht.1
    have hk : k < f.s.n := by omega
    have hw : (f.s.st k = 3 ∨ f.pc k ≠ 0) → 0 ≤ mi k ∧ mi k < M.n := fun e => by
      have hp : f.pc k ≠ 0 := e.elim (h.dr k hk) id
      rw [hag k hk hp, hN]
      exact (h.rng k).2
    obtain ⟨q1, q2, q3, q4⟩ := mid_ref h hN hag hk u
    refine (ml_step hin k hk u x (h.rng k).1 hw (h.tell u)).mono ?_
    rintro e w' ⟨rfl, a, b, c⟩
    rw [q1, q3] at a
    rw [q2] at b
    rw [q1]
    exact ⟨rfl, ⟨_, a, hN.trans (f.mid_sz L k u).symm, fun j hj hp => q4 j (by have hj : j < (f.s.fin k (f.did L k u).ev).n := hj; rw [SS.fin_n] at hj; exact hj) hp⟩, b, c⟩
  · have ed : f.did L t u = Dd.no := by unfold FL.did; rw [if_neg ht]
    have es : f.step L t u = f := by
      unfold FL.step
      have e0 : endO f.s t Dd.no.ev = none := by unfold endO; rw [if_neg ht]
      have e1 : f.s.fin t Dd.no.ev = f.s := by unfold SS.fin; rw [e0]
      rw [ed, e1]
      unfold FL.mid
      rw [if_neg ht]
    rw [ed, es]
    refine (ml_out hin t ht u x).mono ?_
    rintro e w' ⟨rfl, a, b, c⟩
    exact ⟨rfl, ⟨_, a, hN, hag⟩, b, c⟩

/-! ### its seats, New, and its words -/
theorem ml_seats {w : World} {M : Mp} {s : SS} {p : Nat → Int} {mi : Nat → Int} (h : MlRaw w M s p mi) : Calls Try.prog 105 #[.pointer (some ⟨M.r, 0, none⟩)] w fun e w' => e = .returned (.pointer (some ⟨M.sr, 0, none⟩)) ∧ w = w' := by
  have c0 := h.cell0
  clear h
  go_enter Try.func105, Try.ntmps105
  go_wp2
  go_ret
  exact ⟨rfl, rfl⟩
def NewMlPost (w : World) (n sz : Nat) (a : Int) (e : Ending) (w' : World) : Prop :=
  ∃ M : Mp, e = .returned (.pointer (some ⟨M.r, 0, none⟩)) ∧ MlRaw w' M (newSeat n false false) (fun _ => 0) (fun _ => 0) ∧ M.a = a ∧ M.n = sz ∧ M.base = w'.heap.size ∧ (w.heap.size ≤ M.r ∧ ∀ k, MF M k → w.heap.size ≤ k) ∧ Wrote Nil w w'
theorem two_0 (w : World) (A B : Obj) : ((w.alloc A).alloc B).heap[w.heap.size]? = some A := by
  rw [Go.Deep.blk_alloc_lt _ _ _ (by rw [Go.Deep.nblk_alloc]; omega), Go.Deep.blk_alloc_new]
theorem two_1 (w : World) (A B : Obj) : ((w.alloc A).alloc B).heap[w.heap.size + 1]? = some B := by
  rw [← Go.Deep.nblk_alloc w A, Go.Deep.blk_alloc_new]
theorem ml_end {w Wc w2 W : World} {n sz : Nat} {a : Int} {r pc mn lb : Nat} {hv dv : Value} {A B : Array Value} (hA : rowA n (inV fun _ => 0) = A) (hB : rowA n (inV fun _ => 0) = B) (h0 : Wrote Nil w Wc) (hR : RsAt w2 r hv dv (newSeat n false false)) (hnew : ∀ k, SF r hv dv k → Wc.heap.size ≤ k) (hW : Wrote Nil Wc w2) (h2 : Wrote Nil w2 W)
    (hp : W.heap[pc]? = some (.cells A 3 (0, 0))) (hm : W.heap[mn]? = some (.cells B 3 (0, 0))) (hpp : (w.heap.size ≤ pc ∧ pc < Wc.heap.size) ∨ w2.heap.size ≤ pc) (hmm : (w.heap.size ≤ mn ∧ mn < Wc.heap.size) ∨ w2.heap.size ≤ mn) (hne : pc ≠ mn) (hlb : lb = W.heap.size)
    (Y : World) (hY : Y = W.alloc (.cells #[.pointer (some ⟨r, 0, none⟩), .int .i64 a, .int .i64 (sz : Nat), .slice (some ⟨pc, 0, none⟩) n n, .slice (some ⟨mn, 0, none⟩) n n] 96)) : NewMlPost w n sz a (.returned (.pointer (some ⟨lb, 0, none⟩))) Y := by
  subst hlb hY hA hB
  have k : Wrote Nil W (W.alloc (.cells #[.pointer (some ⟨r, 0, none⟩), .int .i64 a, .int .i64 (sz : Nat), .slice (some ⟨pc, 0, none⟩) n n, .slice (some ⟨mn, 0, none⟩) n n] 96)) := (Wrote.refl _ W).alloc _
  have e1 : (W.alloc (.cells #[.pointer (some ⟨r, 0, none⟩), .int .i64 a, .int .i64 (sz : Nat), .slice (some ⟨pc, 0, none⟩) n n, .slice (some ⟨mn, 0, none⟩) n n] 96)).heap.size = W.heap.size + 1 := Go.Deep.nblk_alloc _ _
  have s0 := h0.size
  have s1 := hW.size
  have s2 := h2.size
  have lp := blk_lt hp
  have lm := blk_lt hm
  have hsf : ∀ k, SF r hv dv k → Wc.heap.size ≤ k ∧ k < w2.heap.size := fun k hk => ⟨hnew k hk, SrAt.lt hR hk⟩
  refine ⟨⟨W.heap.size, r, hv, dv, pc, mn, a, sz, 0, (W.alloc (.cells #[.pointer (some ⟨r, 0, none⟩), .int .i64 a, .int .i64 (sz : Nat), .slice (some ⟨pc, 0, none⟩) n n, .slice (some ⟨mn, 0, none⟩) n n] 96)).heap.size⟩, rfl, ⟨Go.Deep.blk_alloc_new W _, hR.after (h2.nil k), (k.block _ lp id).trans hp, (k.block _ lm id).trans hm, ⟨by dsimp only; omega, by dsimp only; omega, hne⟩, fun j hj => ?_, ?_⟩, rfl, rfl, rfl, ⟨by dsimp only; omega, fun j hj => ?_⟩, ((h0.nil hW).nil h2).nil k⟩
  · have := hsf j hj
    dsimp only
    omega
  · dsimp only
    exact ⟨by omega, by omega, by omega, fun j hj => by have := hsf j hj; omega⟩
  · rcases hj with rfl | rfl | hj
    · (try dsimp only); omega
    · (try dsimp only); omega
    · have := hsf j hj; omega
set_option maxHeartbeats 2000000 in
theorem ml_new (n sz : Nat) (n2 : n ≤ 64) (a : Int) (w : World) : Calls Try.prog 17 #[.int .i64 (n : Int), .int .i64 (sz : Nat), .int .i64 a] w (NewMlPost w n sz a) := by
  obtain ⟨i0, hi, hz0, hz1, hz2⟩ := info_parts info_int
  have hmk : ∀ w : World, (Instr.makeSlice 22 (.int .i64 (n : Int)) (.int .i64 (n : Int))).run Try.prog w = .ok (.slice (some ⟨w.heap.size, 0, none⟩) n n) (w.alloc (.cells (rowA n (inV fun _ => 0)) 3)) := by
    intro w
    have h := Go.run_make (P := Try.prog) w 22 3 i0 _ Try.underlying22 hi hz0 .i64 .i64 n n (by omega) (by omega) (by rw [hz2]; omega) (by omega)
    rw [hz1] at h
    simp only [Int.toNat_natCast] at h
    rw [show madeCells (Value.int .i64 0).cells (n * 1) = rowA n (inV fun _ => 0) from made_row (.int .i64 0) n] at h
    exact h
  generalize hA : rowA n (inV fun _ => 0) = A at hmk
  have cS := fun W => rs_new n false false n2 W
  have HA := Lib.hid (And.intro hA hA)
  clear hA
  go_enter Try.func17, Try.ntmps17
  go_wp2
  go_region_with (go_at_call 41; (with_reducible refine (cS _).mono ?_); intro e w2 hq; unfold RsNewPost at hq; obtain ⟨r, hv, dv, rfl, hR, hnew, hW⟩ := hq; have HR := Lib.hid (And.intro hR (And.intro hnew hW)); clear hR hnew hW cS)
  all_goals
    go_wp2
    go_ret
    first
      | exact ml_end HA.out.1 HA.out.2 ((Wrote.refl Nil w).drew) HR.out.1 HR.out.2.1 HR.out.2.2 (((Wrote.refl Nil w2).alloc _).alloc _) (two_0 w2 _ _) (two_1 w2 _ _) (by exact .inr (Nat.le_refl _)) (by exact .inr (Nat.le_succ _)) (by omega) (by simp only [Go.Deep.nblk_alloc]) _ rfl
      | exact ml_end HA.out.1 HA.out.2 ((Wrote.refl Nil w).drew) HR.out.1 HR.out.2.1 HR.out.2.2 (((Wrote.refl Nil w2).alloc _).alloc _) (two_1 w2 _ _) (two_0 w2 _ _) (by exact .inr (Nat.le_succ _)) (by exact .inr (Nat.le_refl _)) (by omega) (by simp only [Go.Deep.nblk_alloc]) _ rfl
      | exact ml_end HA.out.1 HA.out.2 (((Wrote.refl Nil w).alloc _).drew) HR.out.1 HR.out.2.1 HR.out.2.2 ((Wrote.refl Nil w2).alloc _) ((Go.Deep.blk_alloc_lt w2 _ _ (Nat.lt_of_lt_of_le ((by have e : (w.alloc (.cells A 3)).heap.size = w.heap.size + 1 := Go.Deep.nblk_alloc _ _; show w.heap.size < (w.alloc (.cells A 3)).heap.size; omega)) HR.out.2.2.size)).trans ((HR.out.2.2.block w.heap.size ((by have e : (w.alloc (.cells A 3)).heap.size = w.heap.size + 1 := Go.Deep.nblk_alloc _ _; show w.heap.size < (w.alloc (.cells A 3)).heap.size; omega)) id).trans (Go.Deep.blk_alloc_new w (.cells A 3)))) (Go.Deep.blk_alloc_new w2 _) (by exact .inl ⟨Nat.le_refl _, (by have e : (w.alloc (.cells A 3)).heap.size = w.heap.size + 1 := Go.Deep.nblk_alloc _ _; show w.heap.size < (w.alloc (.cells A 3)).heap.size; omega)⟩) (by exact .inr (Nat.le_refl _)) (by have q1 : w.heap.size < (w.alloc (.cells A 3)).heap.size := (by have e : (w.alloc (.cells A 3)).heap.size = w.heap.size + 1 := Go.Deep.nblk_alloc _ _; show w.heap.size < (w.alloc (.cells A 3)).heap.size; omega); have q2 := HR.out.2.2.size; have q3 : (w.alloc (.cells A 3)).heap.size ≤ w2.heap.size := q2; omega) (by simp only [Go.Deep.nblk_alloc]) _ rfl
      | exact ml_end HA.out.1 HA.out.2 (((Wrote.refl Nil w).drew).alloc _) HR.out.1 HR.out.2.1 HR.out.2.2 ((Wrote.refl Nil w2).alloc _) ((Go.Deep.blk_alloc_lt w2 _ _ (Nat.lt_of_lt_of_le ((by have e : (w.alloc (.cells A 3)).heap.size = w.heap.size + 1 := Go.Deep.nblk_alloc _ _; show w.heap.size < (w.alloc (.cells A 3)).heap.size; omega)) HR.out.2.2.size)).trans ((HR.out.2.2.block w.heap.size ((by have e : (w.alloc (.cells A 3)).heap.size = w.heap.size + 1 := Go.Deep.nblk_alloc _ _; show w.heap.size < (w.alloc (.cells A 3)).heap.size; omega)) id).trans (Go.Deep.blk_alloc_new w (.cells A 3)))) (Go.Deep.blk_alloc_new w2 _) (by exact .inl ⟨Nat.le_refl _, (by have e : (w.alloc (.cells A 3)).heap.size = w.heap.size + 1 := Go.Deep.nblk_alloc _ _; show w.heap.size < (w.alloc (.cells A 3)).heap.size; omega)⟩) (by exact .inr (Nat.le_refl _)) (by have q1 : w.heap.size < (w.alloc (.cells A 3)).heap.size := (by have e : (w.alloc (.cells A 3)).heap.size = w.heap.size + 1 := Go.Deep.nblk_alloc _ _; show w.heap.size < (w.alloc (.cells A 3)).heap.size; omega); have q2 := HR.out.2.2.size; have q3 : (w.alloc (.cells A 3)).heap.size ≤ w2.heap.size := q2; omega) (by simp only [Go.Deep.nblk_alloc]) _ rfl
      | exact ml_end HA.out.1 HA.out.2 (((Wrote.refl Nil w).alloc _).drew) HR.out.1 HR.out.2.1 HR.out.2.2 ((Wrote.refl Nil w2).alloc _) (Go.Deep.blk_alloc_new w2 _) ((Go.Deep.blk_alloc_lt w2 _ _ (Nat.lt_of_lt_of_le ((by have e : (w.alloc (.cells A 3)).heap.size = w.heap.size + 1 := Go.Deep.nblk_alloc _ _; show w.heap.size < (w.alloc (.cells A 3)).heap.size; omega)) HR.out.2.2.size)).trans ((HR.out.2.2.block w.heap.size ((by have e : (w.alloc (.cells A 3)).heap.size = w.heap.size + 1 := Go.Deep.nblk_alloc _ _; show w.heap.size < (w.alloc (.cells A 3)).heap.size; omega)) id).trans (Go.Deep.blk_alloc_new w (.cells A 3)))) (by exact .inr (Nat.le_refl _)) (by exact .inl ⟨Nat.le_refl _, (by have e : (w.alloc (.cells A 3)).heap.size = w.heap.size + 1 := Go.Deep.nblk_alloc _ _; show w.heap.size < (w.alloc (.cells A 3)).heap.size; omega)⟩) (by have q1 : w.heap.size < (w.alloc (.cells A 3)).heap.size := (by have e : (w.alloc (.cells A 3)).heap.size = w.heap.size + 1 := Go.Deep.nblk_alloc _ _; show w.heap.size < (w.alloc (.cells A 3)).heap.size; omega); have q2 := HR.out.2.2.size; have q3 : (w.alloc (.cells A 3)).heap.size ≤ w2.heap.size := q2; omega) (by simp only [Go.Deep.nblk_alloc]) _ rfl
      | exact ml_end HA.out.1 HA.out.2 (((Wrote.refl Nil w).drew).alloc _) HR.out.1 HR.out.2.1 HR.out.2.2 ((Wrote.refl Nil w2).alloc _) (Go.Deep.blk_alloc_new w2 _) ((Go.Deep.blk_alloc_lt w2 _ _ (Nat.lt_of_lt_of_le ((by have e : (w.alloc (.cells A 3)).heap.size = w.heap.size + 1 := Go.Deep.nblk_alloc _ _; show w.heap.size < (w.alloc (.cells A 3)).heap.size; omega)) HR.out.2.2.size)).trans ((HR.out.2.2.block w.heap.size ((by have e : (w.alloc (.cells A 3)).heap.size = w.heap.size + 1 := Go.Deep.nblk_alloc _ _; show w.heap.size < (w.alloc (.cells A 3)).heap.size; omega)) id).trans (Go.Deep.blk_alloc_new w (.cells A 3)))) (by exact .inr (Nat.le_refl _)) (by exact .inl ⟨Nat.le_refl _, (by have e : (w.alloc (.cells A 3)).heap.size = w.heap.size + 1 := Go.Deep.nblk_alloc _ _; show w.heap.size < (w.alloc (.cells A 3)).heap.size; omega)⟩) (by have q1 : w.heap.size < (w.alloc (.cells A 3)).heap.size := (by have e : (w.alloc (.cells A 3)).heap.size = w.heap.size + 1 := Go.Deep.nblk_alloc _ _; show w.heap.size < (w.alloc (.cells A 3)).heap.size; omega); have q2 := HR.out.2.2.size; have q3 : (w.alloc (.cells A 3)).heap.size ≤ w2.heap.size := q2; omega) (by simp only [Go.Deep.nblk_alloc]) _ rfl
      | exact ml_end HA.out.1 HA.out.2 ((((Wrote.refl Nil w).alloc _).alloc _).drew) HR.out.1 HR.out.2.1 HR.out.2.2 (Wrote.refl Nil w2) ((HR.out.2.2.block w.heap.size ((by have e : ((w.alloc (.cells A 3)).alloc (.cells A 3)).heap.size = w.heap.size + 1 + 1 := (by rw [Go.Deep.nblk_alloc, Go.Deep.nblk_alloc]); show w.heap.size < ((w.alloc (.cells A 3)).alloc (.cells A 3)).heap.size; omega)) id).trans (two_0 w (.cells A 3) (.cells A 3))) ((HR.out.2.2.block (w.heap.size + 1) ((by have e : ((w.alloc (.cells A 3)).alloc (.cells A 3)).heap.size = w.heap.size + 1 + 1 := (by rw [Go.Deep.nblk_alloc, Go.Deep.nblk_alloc]); show w.heap.size + 1 < ((w.alloc (.cells A 3)).alloc (.cells A 3)).heap.size; omega)) id).trans (two_1 w (.cells A 3) (.cells A 3))) (by exact .inl ⟨Nat.le_refl _, (by have e : ((w.alloc (.cells A 3)).alloc (.cells A 3)).heap.size = w.heap.size + 1 + 1 := (by rw [Go.Deep.nblk_alloc, Go.Deep.nblk_alloc]); show w.heap.size < ((w.alloc (.cells A 3)).alloc (.cells A 3)).heap.size; omega)⟩) (by exact .inl ⟨Nat.le_succ _, (by have e : ((w.alloc (.cells A 3)).alloc (.cells A 3)).heap.size = w.heap.size + 1 + 1 := (by rw [Go.Deep.nblk_alloc, Go.Deep.nblk_alloc]); show w.heap.size + 1 < ((w.alloc (.cells A 3)).alloc (.cells A 3)).heap.size; omega)⟩) (by omega) rfl _ rfl
      | exact ml_end HA.out.1 HA.out.2 ((((Wrote.refl Nil w).drew).alloc _).alloc _) HR.out.1 HR.out.2.1 HR.out.2.2 (Wrote.refl Nil w2) ((HR.out.2.2.block w.heap.size ((by have e : ((w.alloc (.cells A 3)).alloc (.cells A 3)).heap.size = w.heap.size + 1 + 1 := (by rw [Go.Deep.nblk_alloc, Go.Deep.nblk_alloc]); show w.heap.size < ((w.alloc (.cells A 3)).alloc (.cells A 3)).heap.size; omega)) id).trans (two_0 w (.cells A 3) (.cells A 3))) ((HR.out.2.2.block (w.heap.size + 1) ((by have e : ((w.alloc (.cells A 3)).alloc (.cells A 3)).heap.size = w.heap.size + 1 + 1 := (by rw [Go.Deep.nblk_alloc, Go.Deep.nblk_alloc]); show w.heap.size + 1 < ((w.alloc (.cells A 3)).alloc (.cells A 3)).heap.size; omega)) id).trans (two_1 w (.cells A 3) (.cells A 3))) (by exact .inl ⟨Nat.le_refl _, (by have e : ((w.alloc (.cells A 3)).alloc (.cells A 3)).heap.size = w.heap.size + 1 + 1 := (by rw [Go.Deep.nblk_alloc, Go.Deep.nblk_alloc]); show w.heap.size < ((w.alloc (.cells A 3)).alloc (.cells A 3)).heap.size; omega)⟩) (by exact .inl ⟨Nat.le_succ _, (by have e : ((w.alloc (.cells A 3)).alloc (.cells A 3)).heap.size = w.heap.size + 1 + 1 := (by rw [Go.Deep.nblk_alloc, Go.Deep.nblk_alloc]); show w.heap.size + 1 < ((w.alloc (.cells A 3)).alloc (.cells A 3)).heap.size; omega)⟩) (by omega) rfl _ rfl
      | exact ml_end HA.out.1 HA.out.2 ((((Wrote.refl Nil w).alloc _).alloc _).drew) HR.out.1 HR.out.2.1 HR.out.2.2 (Wrote.refl Nil w2) ((HR.out.2.2.block (w.heap.size + 1) ((by have e : ((w.alloc (.cells A 3)).alloc (.cells A 3)).heap.size = w.heap.size + 1 + 1 := (by rw [Go.Deep.nblk_alloc, Go.Deep.nblk_alloc]); show w.heap.size + 1 < ((w.alloc (.cells A 3)).alloc (.cells A 3)).heap.size; omega)) id).trans (two_1 w (.cells A 3) (.cells A 3))) ((HR.out.2.2.block w.heap.size ((by have e : ((w.alloc (.cells A 3)).alloc (.cells A 3)).heap.size = w.heap.size + 1 + 1 := (by rw [Go.Deep.nblk_alloc, Go.Deep.nblk_alloc]); show w.heap.size < ((w.alloc (.cells A 3)).alloc (.cells A 3)).heap.size; omega)) id).trans (two_0 w (.cells A 3) (.cells A 3))) (by exact .inl ⟨Nat.le_succ _, (by have e : ((w.alloc (.cells A 3)).alloc (.cells A 3)).heap.size = w.heap.size + 1 + 1 := (by rw [Go.Deep.nblk_alloc, Go.Deep.nblk_alloc]); show w.heap.size + 1 < ((w.alloc (.cells A 3)).alloc (.cells A 3)).heap.size; omega)⟩) (by exact .inl ⟨Nat.le_refl _, (by have e : ((w.alloc (.cells A 3)).alloc (.cells A 3)).heap.size = w.heap.size + 1 + 1 := (by rw [Go.Deep.nblk_alloc, Go.Deep.nblk_alloc]); show w.heap.size < ((w.alloc (.cells A 3)).alloc (.cells A 3)).heap.size; omega)⟩) (by omega) rfl _ rfl
      | exact ml_end HA.out.1 HA.out.2 ((((Wrote.refl Nil w).drew).alloc _).alloc _) HR.out.1 HR.out.2.1 HR.out.2.2 (Wrote.refl Nil w2) ((HR.out.2.2.block (w.heap.size + 1) ((by have e : ((w.alloc (.cells A 3)).alloc (.cells A 3)).heap.size = w.heap.size + 1 + 1 := (by rw [Go.Deep.nblk_alloc, Go.Deep.nblk_alloc]); show w.heap.size + 1 < ((w.alloc (.cells A 3)).alloc (.cells A 3)).heap.size; omega)) id).trans (two_1 w (.cells A 3) (.cells A 3))) ((HR.out.2.2.block w.heap.size ((by have e : ((w.alloc (.cells A 3)).alloc (.cells A 3)).heap.size = w.heap.size + 1 + 1 := (by rw [Go.Deep.nblk_alloc, Go.Deep.nblk_alloc]); show w.heap.size < ((w.alloc (.cells A 3)).alloc (.cells A 3)).heap.size; omega)) id).trans (two_0 w (.cells A 3) (.cells A 3))) (by exact .inl ⟨Nat.le_succ _, (by have e : ((w.alloc (.cells A 3)).alloc (.cells A 3)).heap.size = w.heap.size + 1 + 1 := (by rw [Go.Deep.nblk_alloc, Go.Deep.nblk_alloc]); show w.heap.size + 1 < ((w.alloc (.cells A 3)).alloc (.cells A 3)).heap.size; omega)⟩) (by exact .inl ⟨Nat.le_refl _, (by have e : ((w.alloc (.cells A 3)).alloc (.cells A 3)).heap.size = w.heap.size + 1 + 1 := (by rw [Go.Deep.nblk_alloc, Go.Deep.nblk_alloc]); show w.heap.size < ((w.alloc (.cells A 3)).alloc (.cells A 3)).heap.size; omega)⟩) (by omega) rfl _ rfl
/-! ### its words and homes -/
theorem lit_one (w : World) (e : TypeId) (x : Value) : Grow e 1 w w.heap.size (w.alloc (.cells #[x] e)) 1 [x] (.slice (some ⟨w.heap.size, 0, none⟩) 1 1) :=
  ⟨World.ownsRow_lit w #[x] 1 (Nat.le_refl _) (by decide) rfl, (Wrote.refl _ w).alloc _, by rw [Go.Deep.nblk_alloc]; omega, Nat.le_refl _⟩
def WordsNewPost (w : World) (v : Int) (sz z : Nat) (e : Ending) (w' : World) : Prop := ∃ g cap, e = .returned (.slice (some ⟨g, 0, none⟩) (sz + 1) cap) ∧ RowAt .u32 w' (some ⟨g, 0, none⟩) (sz + 1) ([v] ++ slotR z sz) ∧ Wrote Nil w w'
set_option maxHeartbeats 2000000 in
theorem ml_words (w : World) (v : Int) (hv : 0 ≤ v ∧ v < 4294967296) (sz z : Nat) (s1 : 1 ≤ sz) (s64 : sz ≤ 64) (hz : v % (sz : Int) = (z : Int)) : Calls Try.prog 19 #[.int .i64 (sz : Nat), .int .u32 v] w (WordsNewPost w v sz z) := by
  obtain ⟨i0, hi, hz0, hz1, hz2⟩ := info_parts (show (Try.prog.info? 23).map (fun i => (i.zero, i.size, i.bytes)) = some (some (.int .u32 0), 1, 4) by kernel_rfl)
  have HL := Lib.hid (lit_one w 23 (.int .u32 v))
  have htm : v.tmod (sz : Int) = (z : Int) := by rw [Int.tmod_eq_emod_of_nonneg hv.1]; exact hz
  have hwv : IntKind.i64.wrap v = v := by rw [IntKind.wrap_i64]; omega
  have hNz : (sz : Int) ≠ 0 := by omega
  clear hv hz
  go_enter Try.func19, Try.ntmps19
  go_wp2
  go_loopw [5, 6, 7] (fun v5 v6 _ wr => ∃ k : Nat, k ≤ sz ∧ v6 = .int .i64 k ∧ Grow 23 1 w w.heap.size wr (k + 1) (([v] ++ slotR z k).map (.int .u32)) v5) (fun _ v6 _ _ => sz - (intOf v6).toNat)
  case atStart => exact ⟨0, Nat.zero_le _, rfl, HL.out⟩
  case round =>
    clear HL
    obtain ⟨k, hk, rfl, hG⟩ := hrel
    by_cases hlt : k < sz
    · have hsz := hG.size
      have hmore := slotR_more z k
      have HG := Lib.hid hG
      have hown := hG.own
      clear hG
      have key : ∀ y : Int, slotR z (k + 1) = slotR z k ++ [y] → ∀ (w1 : World) (v' : Value), w1.ownsRow w.heap.size 23 1 v' (k + 1 + 1) (([v] ++ slotR z k).map (.int .u32) ++ [.int .u32 y]) → (wr.alloc (.cells #[.int .u32 y] 23)).grownBy w1 (u5).ownBlock → Grow 23 1 w w.heap.size w1 (k + 1 + 1) (([v] ++ slotR z (k + 1)).map (.int .u32)) v' := fun y hy w1 v' ho hg => by
        have h2 := (HG.out.after ((Wrote.refl Nil wr).alloc (.cells #[.int .u32 y] 23))).more (m := 1) (news := [.int .u32 y]) ho hg
        rw [hy]
        simpa using h2
      by_cases hkz : z = k
      · subst hkz
        rw [if_pos rfl] at hmore
        have HK := Lib.hid (key 1 hmore)
        clear key hmore
        go_wp2_with (at_builtin; refine wpList_append_own _ rfl _ _ 50 rfl w.heap.size 23 i0 (.int .u32 0) 1 4 Try.underlying50 hi hz0 hz1 hz2 rfl (by decide) _ _ _ rfl (hown.alloc _) ⟨wr.heap.size, 0, none⟩ 1 1 [.int .u32 1] rfl rfl ?c1 ?c2 ?c3 ?c4 ?c5 ?_)
        case c1 =>
          intro j u hj
          match j, hj with
          | 0, hj => simp at hj; subst hj; simp [Addr.add]
        case c2 => intro u hu; simp at hu; subst hu; rfl
        case c3 => unfold maxLen; omega
        case c4 => omega
        case c5 => simp; omega
        · intro v' w1 hown' hgrow _
          have HN := Lib.hid (HK.out _ _ hown' hgrow)
          clear hown' hgrow
          go_wp2
          go_roundw
          case rel => exact ⟨z + 1, by omega, by go_num, HN.out⟩
          case measure => simp [intOf]; omega
      · have b1 : ((k : Int) == (z : Int)) = false := beq_false_of_ne (by omega)
        rw [if_neg hkz] at hmore
        have HK := Lib.hid (key 0 hmore)
        clear key hmore hkz
        go_wp2_with (at_builtin; refine wpList_append_own _ rfl _ _ 50 rfl w.heap.size 23 i0 (.int .u32 0) 1 4 Try.underlying50 hi hz0 hz1 hz2 rfl (by decide) _ _ _ rfl (hown.alloc _) ⟨wr.heap.size, 0, none⟩ 1 1 [.int .u32 0] rfl rfl ?c1 ?c2 ?c3 ?c4 ?c5 ?_)
        case c1 =>
          intro j u hj
          match j, hj with
          | 0, hj => simp at hj; subst hj; simp [Addr.add]
        case c2 => intro u hu; simp at hu; subst hu; rfl
        case c3 => unfold maxLen; omega
        case c4 => omega
        case c5 => simp; omega
        · intro v' w1 hown' hgrow _
          have HN := Lib.hid (HK.out _ _ hown' hgrow)
          clear hown' hgrow
          go_wp2
          go_roundw
          case rel => exact ⟨k + 1, by omega, by go_num, HN.out⟩
          case measure => simp [intOf]; omega
    · obtain rfl : k = sz := by omega
      obtain ⟨g, cap, rfl, hrow⟩ := own_row hG.own (Nat.succ_pos _)
      have HG := Lib.hid (And.intro hrow hG.wrote)
      clear hG hrow
      go_wp2
      go_ret
      exact ⟨g, cap, rfl, HG.out.1.2.2.2.1, HG.out.2⟩

def HomesNewPost (w : World) (zs : List Int) (n sz : Nat) (e : Ending) (w' : World) : Prop := ∃ g cap, e = .returned (.slice (some ⟨g, 0, none⟩) (sz + 1) cap) ∧ RowAt .i64 w' (some ⟨g, 0, none⟩) (sz + 1) ([zs.getD 0 0] ++ homeR zs n sz) ∧ Wrote Nil w w'
set_option maxHeartbeats 2000000 in
theorem ml_homes {w : World} {b o n cp : Nat} {zs : List Int} (hr : RowAt .i64 w (some ⟨b, o, none⟩) n zs) (n1 : 1 ≤ n) (n64 : n ≤ 64) (sz : Nat) (s64 : sz ≤ 64) : Calls Try.prog 14 #[.slice (some ⟨b, o, none⟩) n cp, .int .i64 (sz : Nat)] w (HomesNewPost w zs n sz) := by
  obtain ⟨i0, hi, hz0, hz1, hz2⟩ := info_parts info_int
  have hc := hr.cell ⟨b, o, none⟩ rfl 0 (by omega)
  have hc : w.cell? ⟨b, o, none⟩ = some (.int .i64 (zs.getD 0 0)) := hc
  obtain ⟨x, hx⟩ : ∃ x, x = zs.getD 0 0 := ⟨_, rfl⟩
  have HL := Lib.hid (lit_one w 3 (.int .i64 x))
  unfold HomesNewPost
  rw [← hx] at hc ⊢
  have HR := Lib.hid hr
  have n0 : (0 : Nat) < n := n1
  have hNz : (n : Int) ≠ 0 := by omega
  clear hr hx
  go_enter Try.func14, Try.ntmps14
  go_wp2
  clear hc
  go_loopw [5, 6] (fun v5 v6 wr => ∃ k : Nat, k ≤ sz ∧ v6 = .int .i64 k ∧ Grow 3 1 w w.heap.size wr (k + 1) (([x] ++ homeR zs n k).map (.int .i64)) v5) (fun _ v6 _ => sz - (intOf v6).toNat)
  case atStart => exact ⟨0, Nat.zero_le _, rfl, HL.out⟩
  case round =>
    clear HL
    obtain ⟨k, hk, rfl, hG⟩ := hrel
    by_cases hlt : k < sz
    · have hsz := hG.size
      have hm : k % n < n := Nat.mod_lt _ n0
      have hmore := homeR_more zs n k
      have yc : wr.cell? ⟨b, o + k % n, none⟩ = some (.int .i64 (zs.getD (k % n) 0)) := by
        rcases (HR.out.after hG.wrote).at with h0 | ⟨b', o', e, hc⟩
        · omega
        · cases e; exact hc _ hm
      generalize zs.getD (k % n) 0 = y at *
      have HG := Lib.hid hG
      have hown := hG.own
      clear hG
      have key : ∀ (w1 : World) (v' : Value), w1.ownsRow w.heap.size 3 1 v' (k + 1 + 1) (([x] ++ homeR zs n k).map (.int .i64) ++ [.int .i64 y]) → (wr.alloc (.cells #[.int .i64 y] 3)).grownBy w1 (u5).ownBlock → Grow 3 1 w w.heap.size w1 (k + 1 + 1) (([x] ++ homeR zs n (k + 1)).map (.int .i64)) v' := fun w1 v' ho hg => by
        have h2 := (HG.out.after ((Wrote.refl Nil wr).alloc (.cells #[.int .i64 y] 3))).more (m := 1) (news := [.int .i64 y]) ho hg
        rw [hmore]
        simpa using h2
      have HK := Lib.hid key
      clear key hmore
      go_wp2_with (at_builtin; refine wpList_append_own _ rfl _ _ 22 rfl w.heap.size 3 i0 (.int .i64 0) 1 8 Try.underlying22 hi hz0 hz1 hz2 rfl (by decide) _ _ _ rfl (hown.alloc _) ⟨wr.heap.size, 0, none⟩ 1 1 [.int .i64 y] rfl rfl ?c1 ?c2 ?c3 ?c4 ?c5 ?_)
      case c1 =>
        intro j u hj
        match j, hj with
        | 0, hj => simp at hj; subst hj; simp [Addr.add]
      case c2 => intro u hu; simp at hu; subst hu; rfl
      case c3 => unfold maxLen; omega
      case c4 => omega
      case c5 => simp; omega
      · intro v' w1 hown' hgrow _
        have HN := Lib.hid (HK.out _ _ hown' hgrow)
        clear hown' hgrow
        go_wp2
        go_roundw
        case rel => exact ⟨k + 1, by omega, by go_num, HN.out⟩
        case measure => simp [intOf]; omega
    · obtain rfl : k = sz := by omega
      obtain ⟨g, cap, rfl, hrow⟩ := own_row hG.own (Nat.succ_pos _)
      have HG := Lib.hid (And.intro hrow hG.wrote)
      clear hG hrow
      go_wp2
      go_ret
      exact ⟨g, cap, rfl, HG.out.1.2.2.2.1, HG.out.2⟩

/-- what bounds a step of both -/
theorem mm_in {w : World} {M : Mp} {bk : Nat} {so : Option Addr} {cap : Nat} {dv : Value} {f : FL} {L : Lp} {W : List Nat} (hl : LkAt w L f) (ml : MlAt w M f) (hr : RefAt w M.base M.pr bk so cap dv f.ps) (hO : OrdI f W)
    (n1 : 1 ≤ f.s.n) (hD : f.ps.D.length < 1000000) (hws : f.ps.ws.length ≤ 4096) (hb : M.base ≤ w.heap.size) (ha : M.a = 0) (l1 : L.a1 = 0) (l2 : L.a2 = 1) : MmIn w M bk so cap dv f L := by
  obtain ⟨g, nx, ow, ho⟩ := hO
  have hac := ho.ac
  have h8 := ho.n8
  have hbd := hl.bd 0
  exact ⟨ml, hr, n1, by omega, hD, hws, by omega, hb, by rw [ha]; omega, ⟨hbd.2.2.1, hbd.2.2.2.1⟩, by rw [l1, ha], by rw [l2, ha]; rfl, fun k hk hs => (ho.dr k hk).2 (List.mem_append_left _ (by rw [ho.held hk (.inr hs)]; simp)), hl.raw.rng, fun u => hl.tell u 5 M.a⟩

/-! ### how many accesses a call has -/
theorem acc_do (s : PSta) (t K a old v : Int) : cntI (doS s t K a old v).ac t ≤ cntI s.ac t + 1 ∧ cntI s.ac t ≤ cntI (doS s t K a old v).ac t := by
  unfold doS
  split
  · show cntI (bump s.ac t.toNat true) t ≤ _ ∧ _ ≤ cntI (bump s.ac t.toNat true) t
    unfold cntI bump
    by_cases h0 : 0 ≤ t
    · rw [if_pos h0, if_pos h0, if_pos rfl]
      by_cases hl : t.toNat < s.ac.length
      · rw [show (s.ac.set t.toNat (s.ac.getD t.toNat 0 + 1)).getD t.toNat 0 = s.ac.getD t.toNat 0 + 1 by simp [hl]]
        omega
      · rw [List.set_eq_of_length_le (by omega)]
        omega
    · rw [if_neg h0, if_neg h0]; omega
  · omega
theorem acc_mid (f : FL) (L : Lp) (t : Int) : cntI (f.mid L t t).ps.ac t ≤ cntI f.ps.ac t + 1 ∧ cntI f.ps.ac t ≤ cntI (f.mid L t t).ps.ac t := by
  unfold FL.mid FL.acq FL.rel
  repeat' split
  all_goals first | exact acc_do _ _ _ _ _ _ | omega
end Go.Proofs.Ytiddapikahchkaa
