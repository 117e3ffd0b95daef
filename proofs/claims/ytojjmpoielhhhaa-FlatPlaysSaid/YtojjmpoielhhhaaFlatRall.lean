/- A step of the reference's lock is a lock's step; and its New, its words. -/
import Derived.Test.YtojjmpoielhhhaaFlatRstep3
import Derived.Test.YtojjmpoielhhhaaFlatOrd
import Derived.BigRegion
namespace Go.Proofs.Ytojjmpoielhhhaa
open Go.RowKit Go.BigFrame
set_option linter.unusedVariables false
set_option maxRecDepth 100000

def MmPost (w : World) (M : Mp) (bk : Nat) (dv : Value) (f : FL) (d : Dd) (e : Ending) (w' : World) : Prop :=
  e = .returned d.rval ∧ MlAt w' M f ∧ RefSt w' M.base M.pr f.ps ∧ Wrote (MG M bk dv) w w'
structure MmIn (w : World) (M : Mp) (bk : Nat) (so : Option Addr) (cap : Nat) (dv : Value) (f : FL) (L : Lp) : Prop where
  ml : MlAt w M f
  ref : RefAt w M.base M.pr bk so cap dv f.ps
  n1 : 1 ≤ f.s.n
  n2 : f.s.n ≤ 64
  hD : f.ps.D.length < 1000000
  hws : f.ps.ws.length ≤ 4096
  hac : f.ps.ac.length ≤ 64
  hb : M.base ≤ w.heap.size
  ha : 0 ≤ M.a ∧ M.a ≤ 4096
  l1 : L.a1 = M.a
  l2 : L.a2 = M.a + 1
  dr : ∀ k, k < f.s.n → f.s.st k = 3 ∨ f.s.st k = 4 → f.dr k = true
  tell : ∀ u, 0 ≤ tellS f.ps u 5 M.a ∧ tellS f.ps u 5 M.a < 4294967296

theorem mm_step {w : World} {M : Mp} {bk : Nat} {so : Option Addr} {cap : Nat} {dv : Value} {f : FL} {L : Lp} (h : MmIn w M bk so cap dv f L) (t u x : Int) :
    Calls Try.prog 97 #[.pointer (some ⟨M.r, 0, none⟩), .pointer (some ⟨M.pr, 0, none⟩), .int .i64 t, .int .i64 u, .int .i64 x] w (MmPost w M bk dv (f.step L t u) (f.did L t u)) := by
  obtain ⟨mi, hraw, hrng, hag⟩ := h.ml.raw
  have hin : MsIn w M bk so cap dv f.s f.dr mi f.ps := ⟨hraw, h.ref, h.n1, h.n2, h.hD, h.hws, h.hac, h.hb, h.ha⟩
  by_cases ht : 0 ≤ t ∧ t < f.s.n
  · obtain ⟨k, rfl⟩ := Int.eq_ofNat_of_zero_le ht.1
    have hk : k < f.s.n := by omega
    by_cases s1 : f.s.st k = 1
    · cases hd : f.dr k
      · have ed : f.did L k u = ⟨0, true, false, false⟩ := by
          unfold FL.did FL.acqD
          rw [if_pos ht, Int.toNat_natCast, if_pos s1, hd, if_neg (by decide)]
        have es : f.step L k u = { f with num := upd f.num k (tellS f.ps u 5 M.a), dr := upd f.dr k true, ps := doS f.ps u 5 M.a 0 1 } := by
          unfold FL.step
          rw [ed, fin_none (by rw [s1]; rfl)]
          unfold FL.mid FL.acq
          rw [if_pos ht, Int.toNat_natCast, if_pos s1, hd, if_neg (by decide), h.l1]
        rw [ed, es]
        refine (ml_draw hin k hk u x s1 hd).mono ?_
        rintro e w' ⟨rfl, a, b, c⟩
        refine ⟨rfl, ⟨_, a, fun j => ?_, fun j hj hdj => ?_⟩, b, c⟩
        · by_cases q : j = k
          · subst q; rw [upd_same]; exact h.tell u
          · rw [upd_other _ _ q]; exact hrng j
        · show upd mi k _ j = upd f.num k _ j
          by_cases q : j = k
          · subst q; rw [upd_same, upd_same]
          · rw [upd_other _ _ q, upd_other _ _ q]
            exact hag j hj (by have hdj : upd f.dr k true j = true := hdj
                               rw [upd_other _ _ q] at hdj; exact hdj)
      · have em : mi k = f.num k := hag k hk hd
        by_cases he : tellS f.ps u 1 (M.a + 1) = mi k
        · have ed : f.did L k u = ⟨1, false, false, false⟩ := by
            unfold FL.did FL.acqD
            rw [if_pos ht, Int.toNat_natCast, if_pos s1, hd, if_pos rfl, h.l2, if_pos (by rw [← em]; exact he)]
          have es : f.step L k u = { f with s := f.s.set k 2 0, ps := doS f.ps u 1 (M.a + 1) 0 0 } := by
            unfold FL.step
            rw [ed, fin_some hk (by rw [s1]; rfl : behindI (f.s.st k) 1 = some 2)]
            unfold FL.mid FL.acq
            rw [if_pos ht, Int.toNat_natCast, if_pos s1, hd, if_pos rfl, h.l2]
          rw [ed, es]
          refine (ml_grant hin k hk u x s1 hd he).mono ?_
          rintro e w' ⟨rfl, a, b, c⟩
          exact ⟨rfl, ⟨_, a, hrng, hag⟩, b, c⟩
        · have ed : f.did L k u = Dd.no := by
            unfold FL.did FL.acqD
            rw [if_pos ht, Int.toNat_natCast, if_pos s1, hd, if_pos rfl, h.l2, if_neg (by rw [← em]; exact he)]
          have es : f.step L k u = { f with ps := doS f.ps u 1 (M.a + 1) 0 0 } := by
            unfold FL.step
            rw [ed, fin_none (by rw [s1]; rfl)]
            unfold FL.mid FL.acq
            rw [if_pos ht, Int.toNat_natCast, if_pos s1, hd, if_pos rfl, h.l2]
          rw [ed, es]
          refine (ml_wait hin k hk u x s1 hd he).mono ?_
          rintro e w' ⟨rfl, a, b, c⟩
          exact ⟨rfl, ⟨_, a, hrng, hag⟩, b, c⟩
    · by_cases s3 : f.s.st k = 3
      · have em : mi k = f.num k := hag k hk (h.dr k hk (.inl s3))
        have ed : f.did L k u = ⟨3, false, false, false⟩ := by
          unfold FL.did
          rw [if_pos ht, Int.toNat_natCast, if_neg s1, if_pos s3]
        have es : f.step L k u = { f with s := f.s.set k 0 0, num := upd f.num k 0, dr := upd f.dr k false, ps := doS f.ps u 2 (M.a + 1) 0 ((mi k + 1) % 4294967296) } := by
          unfold FL.step
          rw [ed, fin_some hk (by rw [s3]; rfl : behindI (f.s.st k) 3 = some 0)]
          unfold FL.mid FL.rel
          rw [if_pos ht, Int.toNat_natCast, if_neg s1, if_pos s3, h.l2, em]
        rw [ed, es]
        refine (ml_free hin k hk u x s3 hrng).mono ?_
        rintro e w' ⟨rfl, a, b, c⟩
        refine ⟨rfl, ⟨_, a, hrng, fun j hj hdj => ?_⟩, b, c⟩
        have hdj : upd f.dr k false j = true := hdj
        show mi j = upd f.num k 0 j
        by_cases q : j = k
        · subst q; rw [upd_same] at hdj; cases hdj
        · rw [upd_other _ _ q] at hdj ⊢
          exact hag j hj hdj
      · by_cases s4 : f.s.st k = 4
        · have em : mi k = f.num k := hag k hk (h.dr k hk (.inr s4))
          by_cases he : tellS f.ps u 1 M.a = (mi k + 1) % 4294967296
          · have ed : f.did L k u = ⟨4, false, false, false⟩ := by
              unfold FL.did FL.askD
              rw [if_pos ht, Int.toNat_natCast, if_neg s1, if_neg s3, if_pos s4, h.l1, if_pos (by rw [← em]; exact he)]
            have es : f.step L k u = { f with s := f.s.set k 2 0, ps := doS f.ps u 1 M.a 0 0 } := by
              unfold FL.step
              rw [ed, fin_some hk (by rw [s4]; rfl : behindI (f.s.st k) 4 = some 2)]
              unfold FL.mid FL.ask
              rw [if_pos ht, Int.toNat_natCast, if_neg s1, if_neg s3, if_pos s4, h.l1]
            rw [ed, es]
            refine (ml_alone hin k hk u x s4 he).mono ?_
            rintro e w' ⟨rfl, a, b, c⟩
            exact ⟨rfl, ⟨_, a, hrng, hag⟩, b, c⟩
          · have ed : f.did L k u = ⟨5, false, false, false⟩ := by
              unfold FL.did FL.askD
              rw [if_pos ht, Int.toNat_natCast, if_neg s1, if_neg s3, if_pos s4, h.l1, if_neg (by rw [← em]; exact he)]
            have es : f.step L k u = { f with s := f.s.set k 2 0, ps := doS f.ps u 1 M.a 0 0 } := by
              unfold FL.step
              rw [ed, fin_some hk (by rw [s4]; rfl : behindI (f.s.st k) 5 = some 2)]
              unfold FL.mid FL.ask
              rw [if_pos ht, Int.toNat_natCast, if_neg s1, if_neg s3, if_pos s4, h.l1]
            rw [ed, es]
            refine (ml_company hin k hk u x s4 he).mono ?_
            rintro e w' ⟨rfl, a, b, c⟩
            exact ⟨rfl, ⟨_, a, hrng, hag⟩, b, c⟩
        · have ed : f.did L k u = Dd.no := by
            unfold FL.did
            rw [if_pos ht, Int.toNat_natCast, if_neg s1, if_neg s3, if_neg s4]
          have es : f.step L k u = f := by
            unfold FL.step
            rw [ed, fin_none (by unfold behindI Dd.no; rw [if_neg (by omega), if_neg (by omega), if_neg (by omega), if_neg (by omega)])]
            unfold FL.mid
            rw [if_pos ht, Int.toNat_natCast, if_neg s1, if_neg s3, if_neg s4]
          rw [ed, es]
          refine (ml_idle hin k hk u x s1 s3 s4).mono ?_
          rintro e w' ⟨rfl, a, b, c⟩
          exact ⟨rfl, ⟨_, a, hrng, hag⟩, b, c⟩
  · have ed : f.did L t u = Dd.no := by unfold FL.did; rw [if_neg ht]
    have es : f.step L t u = f := by
      unfold FL.step
      have e0 : endO f.s t Dd.no.ev = none := by unfold endO; rw [if_neg ht]
      have e1 : f.s.fin t Dd.no.ev = f.s := by unfold SS.fin; rw [e0]
      rw [ed, e1]
      unfold FL.mid
      rw [if_neg ht]
    rw [ed, es]
    refine (ml_out hin t ht u x).mono ?_
    rintro e w' ⟨rfl, a, b, c⟩
    exact ⟨rfl, ⟨_, a, hrng, hag⟩, b, c⟩

/-! ### its seats, New, and its words -/
theorem ml_seats {w : World} {M : Mp} {s : SS} {p : Nat → Bool} {mi : Nat → Int} (h : MlRaw w M s p mi) : Calls Try.prog 96 #[.pointer (some ⟨M.r, 0, none⟩)] w fun e w' => e = .returned (.pointer (some ⟨M.sr, 0, none⟩)) ∧ w = w' := by
  have c0 := h.cell0
  clear h
  go_enter Try.func96, Try.ntmps96
  go_wp2
  go_ret
  exact ⟨rfl, rfl⟩
def WordsNewPost (w : World) (v : Int) (e : Ending) (w' : World) : Prop := ∃ g, e = .returned (.slice (some ⟨g, 0, none⟩) 2 2) ∧ RowAt .u32 w' (some ⟨g, 0, none⟩) 2 [v, v] ∧ Wrote Nil w w' ∧ w.heap.size ≤ w'.heap.size
theorem ml_words (w : World) (v : Int) : Calls Try.prog 15 #[.int .u32 v] w (WordsNewPost w v) := by
  go_enter Try.func15, Try.ntmps15
  go_wp2
  go_ret
  have hW : Wrote Nil w (w.alloc (.cells #[.int .u32 v, .int .u32 v] 23)) := (Wrote.refl _ w).alloc _
  refine ⟨w.heap.size, rfl, ⟨rfl, fun e => (by cases e), fun b hb j hj => ?_⟩, hW, hW.size⟩
  cases hb
  have hc := Go.Deep.blk_alloc_new w (.cells #[.int .u32 v, .int .u32 v] 23)
  rw [Go.Addr.add_lit, Nat.zero_add, blk_cell hc]
  match j, hj with
  | 0, _ => rfl
  | 1, _ => rfl
def NewMlPost (w : World) (n : Nat) (a : Int) (e : Ending) (w' : World) : Prop :=
  ∃ M : Mp, e = .returned (.pointer (some ⟨M.r, 0, none⟩)) ∧ MlRaw w' M (newSeat n false true) (fun _ => false) (fun _ => 0) ∧ M.a = a ∧ M.base = w'.heap.size ∧ (w.heap.size ≤ M.r ∧ ∀ k, MF M k → w.heap.size ≤ k) ∧ Wrote Nil w w'
theorem two_0 (w : World) (A B : Obj) : ((w.alloc A).alloc B).heap[w.heap.size]? = some A := by
  rw [Go.Deep.blk_alloc_lt _ _ _ (by rw [Go.Deep.nblk_alloc]; omega), Go.Deep.blk_alloc_new]
theorem two_1 (w : World) (A B : Obj) : ((w.alloc A).alloc B).heap[w.heap.size + 1]? = some B := by
  rw [← Go.Deep.nblk_alloc w A, Go.Deep.blk_alloc_new]
theorem ml_end {w Wc w2 W : World} {n : Nat} {a : Int} {r pc mn lb : Nat} {hv dv : Value} {A B : Array Value} (hA : rowA n (pcV fun _ => false) = A) (hB : rowA n (miV fun _ => 0) = B) (h0 : Wrote Nil w Wc) (hR : RsAt w2 r hv dv (newSeat n false true)) (hnew : ∀ k, SF r hv dv k → Wc.heap.size ≤ k) (hW : Wrote Nil Wc w2) (h2 : Wrote Nil w2 W)
    (hp : W.heap[pc]? = some (.cells A 3 (0, 0))) (hm : W.heap[mn]? = some (.cells B 23 (0, 0))) (hpp : (w.heap.size ≤ pc ∧ pc < Wc.heap.size) ∨ w2.heap.size ≤ pc) (hmm : (w.heap.size ≤ mn ∧ mn < Wc.heap.size) ∨ w2.heap.size ≤ mn) (hne : pc ≠ mn) (hlb : lb = W.heap.size)
    (Y : World) (hY : Y = W.alloc (.cells #[.pointer (some ⟨r, 0, none⟩), .int .i64 a, .slice (some ⟨pc, 0, none⟩) n n, .slice (some ⟨mn, 0, none⟩) n n] 87)) : NewMlPost w n a (.returned (.pointer (some ⟨lb, 0, none⟩))) Y := by
  subst hlb hY hA hB
  have k : Wrote Nil W (W.alloc (.cells #[.pointer (some ⟨r, 0, none⟩), .int .i64 a, .slice (some ⟨pc, 0, none⟩) n n, .slice (some ⟨mn, 0, none⟩) n n] 87)) := (Wrote.refl _ W).alloc _
  have e1 : (W.alloc (.cells #[.pointer (some ⟨r, 0, none⟩), .int .i64 a, .slice (some ⟨pc, 0, none⟩) n n, .slice (some ⟨mn, 0, none⟩) n n] 87)).heap.size = W.heap.size + 1 := Go.Deep.nblk_alloc _ _
  have s0 := h0.size
  have s1 := hW.size
  have s2 := h2.size
  have lp := blk_lt hp
  have lm := blk_lt hm
  have hsf : ∀ k, SF r hv dv k → Wc.heap.size ≤ k ∧ k < w2.heap.size := fun k hk => ⟨hnew k hk, SrAt.lt hR hk⟩
  refine ⟨⟨W.heap.size, r, hv, dv, pc, mn, a, 0, (W.alloc (.cells #[.pointer (some ⟨r, 0, none⟩), .int .i64 a, .slice (some ⟨pc, 0, none⟩) n n, .slice (some ⟨mn, 0, none⟩) n n] 87)).heap.size⟩, rfl, ⟨Go.Deep.blk_alloc_new W _, hR.after (h2.nil k), (k.block _ lp id).trans hp, (k.block _ lm id).trans hm, ⟨by dsimp only; omega, by dsimp only; omega, hne⟩, fun j hj => ?_, ?_⟩, rfl, rfl, ⟨by dsimp only; omega, fun j hj => ?_⟩, ((h0.nil hW).nil h2).nil k⟩
  · have := hsf j hj
    dsimp only
    omega
  · dsimp only
    exact ⟨by omega, by omega, by omega, fun j hj => by have := hsf j hj; omega⟩
  · rcases hj with rfl | rfl | hj
    · (try dsimp only); omega
    · (try dsimp only); omega
    · have := hsf j hj; omega
set_option maxHeartbeats 2000000 in
theorem ml_new (n : Nat) (n2 : n ≤ 64) (a : Int) (w : World) : Calls Try.prog 13 #[.int .i64 (n : Int), .int .i64 a] w (NewMlPost w n a) := by
  obtain ⟨i0, hi, hz0, hz1, hz2⟩ := info_parts info_int
  have hmk : ∀ w : World, (Instr.makeSlice 22 (.int .i64 (n : Int)) (.int .i64 (n : Int))).run Try.prog w = .ok (.slice (some ⟨w.heap.size, 0, none⟩) n n) (w.alloc (.cells (rowA n (pcV fun _ => false)) 3)) := by
    intro w
    have h := Go.run_make (P := Try.prog) w 22 3 i0 _ Try.underlying22 hi hz0 .i64 .i64 n n (by omega) (by omega) (by rw [hz2]; omega) (by omega)
    rw [hz1] at h
    simp only [Int.toNat_natCast] at h
    rw [show madeCells (Value.int .i64 0).cells (n * 1) = rowA n (pcV fun _ => false) from made_row (.int .i64 0) n] at h
    exact h
  obtain ⟨j0, gi, gz0, gz1, gz2⟩ := info_parts (show (Try.prog.info? 23).map (fun i => (i.zero, i.size, i.bytes)) = some (some (.int .u32 0), 1, 4) by kernel_rfl)
  have hmm : ∀ w : World, (Instr.makeSlice 46 (.int .i64 (n : Int)) (.int .i64 (n : Int))).run Try.prog w = .ok (.slice (some ⟨w.heap.size, 0, none⟩) n n) (w.alloc (.cells (rowA n (miV fun _ => 0)) 23)) := by
    intro w
    have h := Go.run_make (P := Try.prog) w 46 23 j0 _ Try.underlying46 gi gz0 .i64 .i64 n n (by omega) (by omega) (by rw [gz2]; omega) (by omega)
    rw [gz1] at h
    simp only [Int.toNat_natCast] at h
    rw [show madeCells (Value.int .u32 0).cells (n * 1) = rowA n (miV fun _ => 0) from made_row (.int .u32 0) n] at h
    exact h
  generalize hA : rowA n (pcV fun _ => false) = A at hmk
  generalize hB : rowA n (miV fun _ => 0) = B at hmm
  have cS := fun W => rs_new n false true n2 W
  have HA := Lib.hid (And.intro hA hB)
  clear hA hB
  go_enter Try.func13, Try.ntmps13
  go_wp2
  go_region_with (go_at_call 31; (with_reducible refine (cS _).mono ?_); intro e w2 hq; unfold RsNewPost at hq; obtain ⟨r, hv, dv, rfl, hR, hnew, hW⟩ := hq; have HR := Lib.hid (And.intro hR (And.intro hnew hW)); clear hR hnew hW cS)
  all_goals
    go_wp2
    go_ret
    first
      | exact ml_end HA.out.1 HA.out.2 ((Wrote.refl Nil w).drew) HR.out.1 HR.out.2.1 HR.out.2.2 (((Wrote.refl Nil w2).alloc _).alloc _) (two_0 w2 _ _) (two_1 w2 _ _) (by exact .inr (Nat.le_refl _)) (by exact .inr (Nat.le_succ _)) (by omega) (by simp only [Go.Deep.nblk_alloc]) _ rfl
      | exact ml_end HA.out.1 HA.out.2 ((Wrote.refl Nil w).drew) HR.out.1 HR.out.2.1 HR.out.2.2 (((Wrote.refl Nil w2).alloc _).alloc _) (two_1 w2 _ _) (two_0 w2 _ _) (by exact .inr (Nat.le_succ _)) (by exact .inr (Nat.le_refl _)) (by omega) (by simp only [Go.Deep.nblk_alloc]) _ rfl
      | exact ml_end HA.out.1 HA.out.2 (((Wrote.refl Nil w).alloc _).drew) HR.out.1 HR.out.2.1 HR.out.2.2 ((Wrote.refl Nil w2).alloc _) ((Go.Deep.blk_alloc_lt w2 _ _ (Nat.lt_of_lt_of_le ((by have e : (w.alloc (.cells A 3)).heap.size = w.heap.size + 1 := Go.Deep.nblk_alloc _ _; show w.heap.size < (w.alloc (.cells A 3)).heap.size; omega)) HR.out.2.2.size)).trans ((HR.out.2.2.block w.heap.size ((by have e : (w.alloc (.cells A 3)).heap.size = w.heap.size + 1 := Go.Deep.nblk_alloc _ _; show w.heap.size < (w.alloc (.cells A 3)).heap.size; omega)) id).trans (Go.Deep.blk_alloc_new w (.cells A 3)))) (Go.Deep.blk_alloc_new w2 _) (by exact .inl ⟨Nat.le_refl _, (by have e : (w.alloc (.cells A 3)).heap.size = w.heap.size + 1 := Go.Deep.nblk_alloc _ _; show w.heap.size < (w.alloc (.cells A 3)).heap.size; omega)⟩) (by exact .inr (Nat.le_refl _)) (by have q1 : w.heap.size < (w.alloc (.cells A 3)).heap.size := (by have e : (w.alloc (.cells A 3)).heap.size = w.heap.size + 1 := Go.Deep.nblk_alloc _ _; show w.heap.size < (w.alloc (.cells A 3)).heap.size; omega); have q2 := HR.out.2.2.size; have q3 : (w.alloc (.cells A 3)).heap.size ≤ w2.heap.size := q2; omega) (by simp only [Go.Deep.nblk_alloc]) _ rfl
      | exact ml_end HA.out.1 HA.out.2 (((Wrote.refl Nil w).drew).alloc _) HR.out.1 HR.out.2.1 HR.out.2.2 ((Wrote.refl Nil w2).alloc _) ((Go.Deep.blk_alloc_lt w2 _ _ (Nat.lt_of_lt_of_le ((by have e : (w.alloc (.cells A 3)).heap.size = w.heap.size + 1 := Go.Deep.nblk_alloc _ _; show w.heap.size < (w.alloc (.cells A 3)).heap.size; omega)) HR.out.2.2.size)).trans ((HR.out.2.2.block w.heap.size ((by have e : (w.alloc (.cells A 3)).heap.size = w.heap.size + 1 := Go.Deep.nblk_alloc _ _; show w.heap.size < (w.alloc (.cells A 3)).heap.size; omega)) id).trans (Go.Deep.blk_alloc_new w (.cells A 3)))) (Go.Deep.blk_alloc_new w2 _) (by exact .inl ⟨Nat.le_refl _, (by have e : (w.alloc (.cells A 3)).heap.size = w.heap.size + 1 := Go.Deep.nblk_alloc _ _; show w.heap.size < (w.alloc (.cells A 3)).heap.size; omega)⟩) (by exact .inr (Nat.le_refl _)) (by have q1 : w.heap.size < (w.alloc (.cells A 3)).heap.size := (by have e : (w.alloc (.cells A 3)).heap.size = w.heap.size + 1 := Go.Deep.nblk_alloc _ _; show w.heap.size < (w.alloc (.cells A 3)).heap.size; omega); have q2 := HR.out.2.2.size; have q3 : (w.alloc (.cells A 3)).heap.size ≤ w2.heap.size := q2; omega) (by simp only [Go.Deep.nblk_alloc]) _ rfl
      | exact ml_end HA.out.1 HA.out.2 (((Wrote.refl Nil w).alloc _).drew) HR.out.1 HR.out.2.1 HR.out.2.2 ((Wrote.refl Nil w2).alloc _) (Go.Deep.blk_alloc_new w2 _) ((Go.Deep.blk_alloc_lt w2 _ _ (Nat.lt_of_lt_of_le ((by have e : (w.alloc (.cells B 23)).heap.size = w.heap.size + 1 := Go.Deep.nblk_alloc _ _; show w.heap.size < (w.alloc (.cells B 23)).heap.size; omega)) HR.out.2.2.size)).trans ((HR.out.2.2.block w.heap.size ((by have e : (w.alloc (.cells B 23)).heap.size = w.heap.size + 1 := Go.Deep.nblk_alloc _ _; show w.heap.size < (w.alloc (.cells B 23)).heap.size; omega)) id).trans (Go.Deep.blk_alloc_new w (.cells B 23)))) (by exact .inr (Nat.le_refl _)) (by exact .inl ⟨Nat.le_refl _, (by have e : (w.alloc (.cells B 23)).heap.size = w.heap.size + 1 := Go.Deep.nblk_alloc _ _; show w.heap.size < (w.alloc (.cells B 23)).heap.size; omega)⟩) (by have q1 : w.heap.size < (w.alloc (.cells B 23)).heap.size := (by have e : (w.alloc (.cells B 23)).heap.size = w.heap.size + 1 := Go.Deep.nblk_alloc _ _; show w.heap.size < (w.alloc (.cells B 23)).heap.size; omega); have q2 := HR.out.2.2.size; have q3 : (w.alloc (.cells B 23)).heap.size ≤ w2.heap.size := q2; omega) (by simp only [Go.Deep.nblk_alloc]) _ rfl
      | exact ml_end HA.out.1 HA.out.2 (((Wrote.refl Nil w).drew).alloc _) HR.out.1 HR.out.2.1 HR.out.2.2 ((Wrote.refl Nil w2).alloc _) (Go.Deep.blk_alloc_new w2 _) ((Go.Deep.blk_alloc_lt w2 _ _ (Nat.lt_of_lt_of_le ((by have e : (w.alloc (.cells B 23)).heap.size = w.heap.size + 1 := Go.Deep.nblk_alloc _ _; show w.heap.size < (w.alloc (.cells B 23)).heap.size; omega)) HR.out.2.2.size)).trans ((HR.out.2.2.block w.heap.size ((by have e : (w.alloc (.cells B 23)).heap.size = w.heap.size + 1 := Go.Deep.nblk_alloc _ _; show w.heap.size < (w.alloc (.cells B 23)).heap.size; omega)) id).trans (Go.Deep.blk_alloc_new w (.cells B 23)))) (by exact .inr (Nat.le_refl _)) (by exact .inl ⟨Nat.le_refl _, (by have e : (w.alloc (.cells B 23)).heap.size = w.heap.size + 1 := Go.Deep.nblk_alloc _ _; show w.heap.size < (w.alloc (.cells B 23)).heap.size; omega)⟩) (by have q1 : w.heap.size < (w.alloc (.cells B 23)).heap.size := (by have e : (w.alloc (.cells B 23)).heap.size = w.heap.size + 1 := Go.Deep.nblk_alloc _ _; show w.heap.size < (w.alloc (.cells B 23)).heap.size; omega); have q2 := HR.out.2.2.size; have q3 : (w.alloc (.cells B 23)).heap.size ≤ w2.heap.size := q2; omega) (by simp only [Go.Deep.nblk_alloc]) _ rfl
      | exact ml_end HA.out.1 HA.out.2 ((((Wrote.refl Nil w).alloc _).alloc _).drew) HR.out.1 HR.out.2.1 HR.out.2.2 (Wrote.refl Nil w2) ((HR.out.2.2.block w.heap.size ((by have e : ((w.alloc (.cells A 3)).alloc (.cells B 23)).heap.size = w.heap.size + 1 + 1 := (by rw [Go.Deep.nblk_alloc, Go.Deep.nblk_alloc]); show w.heap.size < ((w.alloc (.cells A 3)).alloc (.cells B 23)).heap.size; omega)) id).trans (two_0 w (.cells A 3) (.cells B 23))) ((HR.out.2.2.block (w.heap.size + 1) ((by have e : ((w.alloc (.cells A 3)).alloc (.cells B 23)).heap.size = w.heap.size + 1 + 1 := (by rw [Go.Deep.nblk_alloc, Go.Deep.nblk_alloc]); show w.heap.size + 1 < ((w.alloc (.cells A 3)).alloc (.cells B 23)).heap.size; omega)) id).trans (two_1 w (.cells A 3) (.cells B 23))) (by exact .inl ⟨Nat.le_refl _, (by have e : ((w.alloc (.cells A 3)).alloc (.cells B 23)).heap.size = w.heap.size + 1 + 1 := (by rw [Go.Deep.nblk_alloc, Go.Deep.nblk_alloc]); show w.heap.size < ((w.alloc (.cells A 3)).alloc (.cells B 23)).heap.size; omega)⟩) (by exact .inl ⟨Nat.le_succ _, (by have e : ((w.alloc (.cells A 3)).alloc (.cells B 23)).heap.size = w.heap.size + 1 + 1 := (by rw [Go.Deep.nblk_alloc, Go.Deep.nblk_alloc]); show w.heap.size + 1 < ((w.alloc (.cells A 3)).alloc (.cells B 23)).heap.size; omega)⟩) (by omega) rfl _ rfl
      | exact ml_end HA.out.1 HA.out.2 ((((Wrote.refl Nil w).drew).alloc _).alloc _) HR.out.1 HR.out.2.1 HR.out.2.2 (Wrote.refl Nil w2) ((HR.out.2.2.block w.heap.size ((by have e : ((w.alloc (.cells A 3)).alloc (.cells B 23)).heap.size = w.heap.size + 1 + 1 := (by rw [Go.Deep.nblk_alloc, Go.Deep.nblk_alloc]); show w.heap.size < ((w.alloc (.cells A 3)).alloc (.cells B 23)).heap.size; omega)) id).trans (two_0 w (.cells A 3) (.cells B 23))) ((HR.out.2.2.block (w.heap.size + 1) ((by have e : ((w.alloc (.cells A 3)).alloc (.cells B 23)).heap.size = w.heap.size + 1 + 1 := (by rw [Go.Deep.nblk_alloc, Go.Deep.nblk_alloc]); show w.heap.size + 1 < ((w.alloc (.cells A 3)).alloc (.cells B 23)).heap.size; omega)) id).trans (two_1 w (.cells A 3) (.cells B 23))) (by exact .inl ⟨Nat.le_refl _, (by have e : ((w.alloc (.cells A 3)).alloc (.cells B 23)).heap.size = w.heap.size + 1 + 1 := (by rw [Go.Deep.nblk_alloc, Go.Deep.nblk_alloc]); show w.heap.size < ((w.alloc (.cells A 3)).alloc (.cells B 23)).heap.size; omega)⟩) (by exact .inl ⟨Nat.le_succ _, (by have e : ((w.alloc (.cells A 3)).alloc (.cells B 23)).heap.size = w.heap.size + 1 + 1 := (by rw [Go.Deep.nblk_alloc, Go.Deep.nblk_alloc]); show w.heap.size + 1 < ((w.alloc (.cells A 3)).alloc (.cells B 23)).heap.size; omega)⟩) (by omega) rfl _ rfl
      | exact ml_end HA.out.1 HA.out.2 ((((Wrote.refl Nil w).alloc _).alloc _).drew) HR.out.1 HR.out.2.1 HR.out.2.2 (Wrote.refl Nil w2) ((HR.out.2.2.block (w.heap.size + 1) ((by have e : ((w.alloc (.cells B 23)).alloc (.cells A 3)).heap.size = w.heap.size + 1 + 1 := (by rw [Go.Deep.nblk_alloc, Go.Deep.nblk_alloc]); show w.heap.size + 1 < ((w.alloc (.cells B 23)).alloc (.cells A 3)).heap.size; omega)) id).trans (two_1 w (.cells B 23) (.cells A 3))) ((HR.out.2.2.block w.heap.size ((by have e : ((w.alloc (.cells B 23)).alloc (.cells A 3)).heap.size = w.heap.size + 1 + 1 := (by rw [Go.Deep.nblk_alloc, Go.Deep.nblk_alloc]); show w.heap.size < ((w.alloc (.cells B 23)).alloc (.cells A 3)).heap.size; omega)) id).trans (two_0 w (.cells B 23) (.cells A 3))) (by exact .inl ⟨Nat.le_succ _, (by have e : ((w.alloc (.cells B 23)).alloc (.cells A 3)).heap.size = w.heap.size + 1 + 1 := (by rw [Go.Deep.nblk_alloc, Go.Deep.nblk_alloc]); show w.heap.size + 1 < ((w.alloc (.cells B 23)).alloc (.cells A 3)).heap.size; omega)⟩) (by exact .inl ⟨Nat.le_refl _, (by have e : ((w.alloc (.cells B 23)).alloc (.cells A 3)).heap.size = w.heap.size + 1 + 1 := (by rw [Go.Deep.nblk_alloc, Go.Deep.nblk_alloc]); show w.heap.size < ((w.alloc (.cells B 23)).alloc (.cells A 3)).heap.size; omega)⟩) (by omega) rfl _ rfl
      | exact ml_end HA.out.1 HA.out.2 ((((Wrote.refl Nil w).drew).alloc _).alloc _) HR.out.1 HR.out.2.1 HR.out.2.2 (Wrote.refl Nil w2) ((HR.out.2.2.block (w.heap.size + 1) ((by have e : ((w.alloc (.cells B 23)).alloc (.cells A 3)).heap.size = w.heap.size + 1 + 1 := (by rw [Go.Deep.nblk_alloc, Go.Deep.nblk_alloc]); show w.heap.size + 1 < ((w.alloc (.cells B 23)).alloc (.cells A 3)).heap.size; omega)) id).trans (two_1 w (.cells B 23) (.cells A 3))) ((HR.out.2.2.block w.heap.size ((by have e : ((w.alloc (.cells B 23)).alloc (.cells A 3)).heap.size = w.heap.size + 1 + 1 := (by rw [Go.Deep.nblk_alloc, Go.Deep.nblk_alloc]); show w.heap.size < ((w.alloc (.cells B 23)).alloc (.cells A 3)).heap.size; omega)) id).trans (two_0 w (.cells B 23) (.cells A 3))) (by exact .inl ⟨Nat.le_succ _, (by have e : ((w.alloc (.cells B 23)).alloc (.cells A 3)).heap.size = w.heap.size + 1 + 1 := (by rw [Go.Deep.nblk_alloc, Go.Deep.nblk_alloc]); show w.heap.size + 1 < ((w.alloc (.cells B 23)).alloc (.cells A 3)).heap.size; omega)⟩) (by exact .inl ⟨Nat.le_refl _, (by have e : ((w.alloc (.cells B 23)).alloc (.cells A 3)).heap.size = w.heap.size + 1 + 1 := (by rw [Go.Deep.nblk_alloc, Go.Deep.nblk_alloc]); show w.heap.size < ((w.alloc (.cells B 23)).alloc (.cells A 3)).heap.size; omega)⟩) (by omega) rfl _ rfl
/-- what bounds a step of both -/
theorem mm_in {w : World} {M : Mp} {bk : Nat} {so : Option Addr} {cap : Nat} {dv : Value} {f : FL} {L : Lp} {W : List Nat} (hl : LkAt w L f) (ml : MlAt w M f) (hr : RefAt w M.base M.pr bk so cap dv f.ps) (hO : OrdI f W)
    (n1 : 1 ≤ f.s.n) (hD : f.ps.D.length < 1000000) (hws : f.ps.ws.length ≤ 4096) (hb : M.base ≤ w.heap.size) (ha : M.a = 0) (l1 : L.a1 = 0) (l2 : L.a2 = 1) : MmIn w M bk so cap dv f L := by
  obtain ⟨g, nx, ow, ho⟩ := hO
  have hac := ho.ac
  have h8 := ho.n8
  exact ⟨ml, hr, n1, by omega, hD, hws, by omega, hb, by rw [ha]; omega, by rw [l1, ha], by rw [l2, ha]; rfl, fun k hk hs => (ho.dr k hk).2 (List.mem_append_left _ (by rw [ho.held hk (by omega)]; simp)), fun u => hl.tell u 5 M.a⟩

/-! ### how many accesses a call has -/
theorem acc_do (s : PSta) (t K a old v : Int) : cntI (doS s t K a old v).ac t ≤ cntI s.ac t + 1 ∧ cntI s.ac t ≤ cntI (doS s t K a old v).ac t := by
  unfold doS
  split
  · show cntI (bump s.ac t.toNat true) t ≤ _ ∧ _ ≤ cntI (bump s.ac t.toNat true) t
    unfold cntI bump
    by_cases h0 : 0 ≤ t
    · rw [if_pos h0, if_pos h0, if_pos rfl]
      by_cases hl : t.toNat < s.ac.length
      · rw [show (s.ac.set t.toNat (s.ac.getD t.toNat 0 + 1)).getD t.toNat 0 = s.ac.getD t.toNat 0 + 1 by simp [hl]]
        omega
      · rw [List.set_eq_of_length_le (by omega)]
        omega
    · rw [if_neg h0, if_neg h0]; omega
  · omega
theorem acc_mid (f : FL) (L : Lp) (t : Int) : cntI (f.mid L t t).ps.ac t ≤ cntI f.ps.ac t + 1 ∧ cntI f.ps.ac t ≤ cntI (f.mid L t t).ps.ac t := by
  unfold FL.mid FL.acq FL.rel FL.ask
  repeat' split
  all_goals first | exact acc_do _ _ _ _ _ _ | omega
end Go.Proofs.Ytojjmpoielhhhaa
