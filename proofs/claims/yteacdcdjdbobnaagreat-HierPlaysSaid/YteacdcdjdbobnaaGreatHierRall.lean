/- A step of the reference's hierarchical lock is a lock's step; its seats. -/
import Derived.Test.YteacdcdjdbobnaaGreatHierRstep
import Derived.Test.YteacdcdjdbobnaaGreatHierLaw
import Derived.BigRegion
namespace Go.Proofs.YteacdcdjdbobnaaGreat
open Go.RowKit Go.BigFrame
set_option linter.unusedVariables false
set_option maxRecDepth 100000

/-- the reference's lock is as a lock is -/
structure MlAt (w : World) (M : Mp) (f : FL) : Prop where
  raw : ∃ o, MlRaw w M f.s o ∧ o = fv f
theorem MlAt.after {w w' : World} {M : Mp} {f : FL} (h : MlAt w M f) (k : Wrote Nil w w') : MlAt w' M f := by
  obtain ⟨o, a, b⟩ := h.raw
  exact ⟨o, a.after k, b⟩
theorem MlAt.apart {w w' : World} {M : Mp} {f : FL} {S : Nat → Prop} (h : MlAt w M f) (k : Wrote S w w') (h1 : ¬ S M.r) (h2 : ∀ j, MF M j → ¬ S j) : MlAt w' M f := by
  obtain ⟨o, a, b⟩ := h.raw
  exact ⟨o, a.wrote k h1 h2, b⟩
theorem MlAt.seats {w w' : World} {M : Mp} {f : FL} {s' : SS} (h : MlAt w M f) (hS : RsAt w' M.sr M.hv M.dv s') (hn : s'.n = f.s.n) (k : Wrote (SF M.sr M.hv M.dv) w w') : MlAt w' M { f with s := s' } := by
  obtain ⟨o, a, b⟩ := h.raw
  exact ⟨o, a.seats hS hn k, b⟩
def MmPost (w : World) (M : Mp) (bk : Nat) (dv : Value) (f : FL) (d : Dd) (e : Ending) (w' : World) : Prop :=
  e = .returned d.rval ∧ MlAt w' M f ∧ RefSt w' M.base M.pr f.ps ∧ Wrote (MG M bk dv) w w'
structure MmIn (w : World) (M : Mp) (bk : Nat) (so : Option Addr) (cap : Nat) (dv : Value) (f : FL) (L : Lp) : Prop where
  ml : MlAt w M f
  ref : RefAt w M.base M.pr bk so cap dv f.ps
  n1 : 1 ≤ f.s.n
  n2 : f.s.n ≤ 64
  hD : f.ps.D.length < 1000000
  hws : f.ps.ws.length ≤ 4096
  hac : f.ps.ac.length ≤ 64
  hb : M.base ≤ w.heap.size
  ha : 0 ≤ M.a ∧ M.a ≤ 4096
  l1 : L.a1 = M.a
  l2 : L.a2 = M.a + 1
  prg : ∀ k, 0 ≤ f.pc k ∧ f.pc k ≤ 7
  sts : ∀ k, k < f.s.n → 0 ≤ f.s.st k ∧ f.s.st k ≤ 3
  pc3 : ∀ k, k < f.s.n → f.s.st k = 3 → f.pc k ≤ 1
  rk : ∀ k, k < f.s.n → ∀ u, RkIn f k u
set_option maxHeartbeats 4000000 in
theorem ml_out {w : World} {M : Mp} {bk : Nat} {so : Option Addr} {cap : Nat} {dv : Value} {s : SS} {v : Nat → Nat → Int} {ps : PSta} (h : MsIn w M bk so cap dv s v ps) (t : Int) (ht : ¬ (0 ≤ t ∧ t < s.n)) (u x : Int) :
    Calls Tryz.prog 111 #[.pointer (some ⟨M.r, 0, none⟩), .pointer (some ⟨M.pr, 0, none⟩), .int .i64 t, .int .i64 u, .int .i64 x] w (RkPost w M bk dv s v ps Dd.no.rval) := by
  have n2 := h.n2
  have kk : Wrote Nil w (w.alloc (.cells #[.int .i64 0, .int .i64 0, .int .i64 0, .int .i64 0] 105)) := (Wrote.refl _ w).alloc _
  have b2 := (h.raw.after kk).cell3
  have hB := Go.Deep.blk_alloc_new w (.cells #[.int .i64 0, .int .i64 0, .int .i64 0, .int .i64 0] 105)
  have HE := Lib.hid (And.intro (h.fp.after kk) hB)
  clear h kk hB
  by_cases h0 : t < 0
  · go_enter Tryz.func111, Tryz.ntmps111
    go_wp2
    refine bodyPost_ret (v := Dd.rval Dd.no) (results_cell_row rfl _ _ w.heap.size 105 _ (0, 0) _ rfl HE.out.2 Tryz.underlying105 rfl i_rid) rfl ⟨rfl, HE.out.1⟩
  · have h1 : (s.n : Int) ≤ t := by omega
    clear ht
    generalize s.n = n at *
    go_enter Tryz.func111, Tryz.ntmps111
    go_wp2
    refine bodyPost_ret (v := Dd.rval Dd.no) (results_cell_row rfl _ _ w.heap.size 105 _ (0, 0) _ rfl HE.out.2 Tryz.underlying105 rfl i_rid) rfl ⟨rfl, HE.out.1⟩
theorem end_no {s : SS} {k : Nat} (hk : k < s.n) : endI s k 0 = 0 := by
  unfold endI endB endO
  rw [if_pos (show 0 ≤ (k : Int) ∧ (k : Int) < s.n by omega)]
  have : behindI (s.st (k : Int).toNat) 0 = none := by
    unfold behindI
    repeat' split
    all_goals first | rfl | (exfalso; omega)
  rw [this]
  rfl
set_option maxHeartbeats 4000000 in
theorem ml_idle0 {w : World} {M : Mp} {bk : Nat} {so : Option Addr} {cap : Nat} {dv : Value} {s : SS} {v : Nat → Nat → Int} {ps : PSta} (h : MsIn w M bk so cap dv s v ps) (k : Nat) (hk : k < s.n) (u x : Int) (hs : s.st k = 0) :
    Calls Tryz.prog 111 #[.pointer (some ⟨M.r, 0, none⟩), .pointer (some ⟨M.pr, 0, none⟩), .int .i64 (k : Int), .int .i64 u, .int .i64 x] w (RkPost w M bk dv (s.fin k 0) v ps Dd.no.rval) := by
  obtain ⟨Z, hZ⟩ : ∃ Z, Z = (w.alloc (.cells #[.int .i64 0, .int .i64 0, .int .i64 0, .int .i64 0] 105)).alloc (.cells #[.int .i64 0, .int .i64 0, .int .i64 0, .int .i64 0] 105) := ⟨_, rfl⟩
  obtain ⟨hF0, hR, hWZ⟩ := h.start Z hZ
  have i0 : (0 : Int) ≤ (k : Int) := by omega
  have i1 : (k : Int) < s.n := by omega
  have i2 : ¬ (k : Int) < 0 := by omega
  have i3 : ¬ (s.n : Int) ≤ (k : Int) := by omega
  have iN : decide (s.n ≤ k) = false := decide_eq_false (by omega)
  have b3 := (h.raw.after ((Wrote.refl Nil w).alloc (.cells #[.int .i64 0, .int .i64 0, .int .i64 0, .int .i64 0] 105))).cell3
  obtain ⟨g, cg, hgv, hg⟩ := SrAt.stV hF0.raw.seat (show 0 < s.n by omega)
  have c0 := hF0.raw.cell0
  have cs : Z.cell? ⟨M.sr, 0, none⟩ = some (.slice (some ⟨g, 0, none⟩) s.n cg) := (SrAt.cell0 hF0.raw.seat).trans (by rw [hgv])
  have ct := (hg k _ (stL_at s hk)).1
  rw [hs] at ct
  have n0 : Z.drew.cell? ⟨M.r, 0, none⟩ = some (.pointer (some ⟨M.sr, 0, none⟩)) := hF0.raw.cell0
  have e0 : Z.drew.cell? ⟨w.heap.size + 1, 0, none⟩ = some (.int .i64 0) := hF0.dcell.1
  have cE := rs_end hF0.drew.raw.seat h.n1 h.n2 (k : Int) 0
  rw [end_no hk] at cE
  have HX := Lib.hid hF0
  have HZ := Lib.hid hZ
  clear h hF0 hR hWZ hs hZ hgv hg
  go_enter Tryz.func111, Tryz.ntmps111
  go_upto_region 4 with fail
  rw [← HZ.out]
  clear b3
  go_upto_region 17 with fail
  clear c0 cs ct
  go_region_held3 (fun w' => w'.cell? ⟨M.r, 0, none⟩ = some (.pointer (some ⟨M.sr, 0, none⟩)) ∧ w'.cell? ⟨w.heap.size + 1, 0, none⟩ = some (.int .i64 0)) (first | exact ⟨n0, e0⟩ | exact ⟨d0, q0⟩) (first | (go_at_call 116; (with_reducible refine cE.mono ?_); intro e w4 hq; have hF4 := HX.out.drew.ends (s' := s.fin (k : Int) 0) (SS.fin_n _ _ _) hq; unfold RsPost at hq; obtain ⟨rfl, _, _⟩ := hq; obtain ⟨q0, q1, q2, q3⟩ := hF4.dcell; obtain ⟨v0, v1, v2, v3⟩ := hF4.rcell; obtain ⟨x0, x1, x2, x3⟩ := hF4.rfrz; have d0 := hF4.raw.cell0; have HT := Lib.hid hF4; clear hF4))
  go_wp2
  refine bodyPost_ret (v := Dd.rval Dd.no) (results_cell_row rfl _ _ w.heap.size 105 _ (0, 0) _ rfl (set4 HT.out.res rfl _ _ _ _) Tryz.underlying105 rfl i_rid) rfl HT.out.told
set_option maxHeartbeats 4000000 in
theorem ml_idle2 {w : World} {M : Mp} {bk : Nat} {so : Option Addr} {cap : Nat} {dv : Value} {s : SS} {v : Nat → Nat → Int} {ps : PSta} (h : MsIn w M bk so cap dv s v ps) (k : Nat) (hk : k < s.n) (u x : Int) (hs : s.st k = 2) :
    Calls Tryz.prog 111 #[.pointer (some ⟨M.r, 0, none⟩), .pointer (some ⟨M.pr, 0, none⟩), .int .i64 (k : Int), .int .i64 u, .int .i64 x] w (RkPost w M bk dv (s.fin k 0) v ps Dd.no.rval) := by
  obtain ⟨Z, hZ⟩ : ∃ Z, Z = (w.alloc (.cells #[.int .i64 0, .int .i64 0, .int .i64 0, .int .i64 0] 105)).alloc (.cells #[.int .i64 0, .int .i64 0, .int .i64 0, .int .i64 0] 105) := ⟨_, rfl⟩
  obtain ⟨hF0, hR, hWZ⟩ := h.start Z hZ
  have i0 : (0 : Int) ≤ (k : Int) := by omega
  have i1 : (k : Int) < s.n := by omega
  have i2 : ¬ (k : Int) < 0 := by omega
  have i3 : ¬ (s.n : Int) ≤ (k : Int) := by omega
  have iN : decide (s.n ≤ k) = false := decide_eq_false (by omega)
  have b3 := (h.raw.after ((Wrote.refl Nil w).alloc (.cells #[.int .i64 0, .int .i64 0, .int .i64 0, .int .i64 0] 105))).cell3
  obtain ⟨g, cg, hgv, hg⟩ := SrAt.stV hF0.raw.seat (show 0 < s.n by omega)
  have c0 := hF0.raw.cell0
  have cs : Z.cell? ⟨M.sr, 0, none⟩ = some (.slice (some ⟨g, 0, none⟩) s.n cg) := (SrAt.cell0 hF0.raw.seat).trans (by rw [hgv])
  have ct := (hg k _ (stL_at s hk)).1
  rw [hs] at ct
  have n0 : Z.drew.cell? ⟨M.r, 0, none⟩ = some (.pointer (some ⟨M.sr, 0, none⟩)) := hF0.raw.cell0
  have e0 : Z.drew.cell? ⟨w.heap.size + 1, 0, none⟩ = some (.int .i64 0) := hF0.dcell.1
  have cE := rs_end hF0.drew.raw.seat h.n1 h.n2 (k : Int) 0
  rw [end_no hk] at cE
  have HX := Lib.hid hF0
  have HZ := Lib.hid hZ
  clear h hF0 hR hWZ hs hZ hgv hg
  go_enter Tryz.func111, Tryz.ntmps111
  go_upto_region 4 with fail
  rw [← HZ.out]
  clear b3
  go_upto_region 17 with fail
  clear c0 cs ct
  go_region_held3 (fun w' => w'.cell? ⟨M.r, 0, none⟩ = some (.pointer (some ⟨M.sr, 0, none⟩)) ∧ w'.cell? ⟨w.heap.size + 1, 0, none⟩ = some (.int .i64 0)) (first | exact ⟨n0, e0⟩ | exact ⟨d0, q0⟩) (first | (go_at_call 116; (with_reducible refine cE.mono ?_); intro e w4 hq; have hF4 := HX.out.drew.ends (s' := s.fin (k : Int) 0) (SS.fin_n _ _ _) hq; unfold RsPost at hq; obtain ⟨rfl, _, _⟩ := hq; obtain ⟨q0, q1, q2, q3⟩ := hF4.dcell; obtain ⟨v0, v1, v2, v3⟩ := hF4.rcell; obtain ⟨x0, x1, x2, x3⟩ := hF4.rfrz; have d0 := hF4.raw.cell0; have HT := Lib.hid hF4; clear hF4))
  go_wp2
  refine bodyPost_ret (v := Dd.rval Dd.no) (results_cell_row rfl _ _ w.heap.size 105 _ (0, 0) _ rfl (set4 HT.out.res rfl _ _ _ _) Tryz.underlying105 rfl i_rid) rfl HT.out.told
theorem mm_step {w : World} {M : Mp} {bk : Nat} {so : Option Addr} {cap : Nat} {dv : Value} {f : FL} {L : Lp} (h : MmIn w M bk so cap dv f L) (t u x : Int) :
    Calls Tryz.prog 111 #[.pointer (some ⟨M.r, 0, none⟩), .pointer (some ⟨M.pr, 0, none⟩), .int .i64 t, .int .i64 u, .int .i64 x] w (MmPost w M bk dv (f.step L t u) (f.did L t u)) := by
  obtain ⟨o, hraw, ho⟩ := h.ml.raw
  subst ho
  have hin : MsIn w M bk so cap dv f.s (fv f) f.ps := ⟨hraw, h.ref, h.n1, h.n2, h.hD, h.hws, h.hac, h.hb, h.ha⟩
  by_cases ht : 0 ≤ t ∧ t < f.s.n
  · obtain ⟨k, rfl⟩ := Int.eq_ofNat_of_zero_le ht.1
    have hk : k < f.s.n := by omega
    have st3 := h.sts k hk
    by_cases s1 : f.s.st k = 1
    · have em : f.mid L k u = f.acq L k u := by unfold FL.mid; rw [if_pos ht, Int.toNat_natCast, if_pos s1]
      have ed : f.did L k u = f.acqD L k u := by unfold FL.did; rw [if_pos ht, Int.toNat_natCast, if_pos s1]
      have es : f.step L k u = { f.acq L k u with s := f.s.fin k (f.acqD L k u).ev } := by unfold FL.step; rw [em, ed]
      rw [es, ed]
      refine (ml_lock hin h.l1 h.l2 k hk u x (h.rk k hk u) (h.prg k) s1).mono ?_
      rintro e w' ⟨rfl, a⟩
      exact ⟨rfl, ⟨_, a.raw, rfl⟩, a.ref, a.wr⟩
    by_cases s3 : f.s.st k = 3
    · have em : f.mid L k u = f.rel L k u := by unfold FL.mid; rw [if_pos ht, Int.toNat_natCast, if_neg s1, if_pos s3]
      have ed : f.did L k u = f.relD L k u := by unfold FL.did; rw [if_pos ht, Int.toNat_natCast, if_neg s1, if_pos s3]
      have es : f.step L k u = { f.rel L k u with s := f.s.fin k (f.relD L k u).ev } := by unfold FL.step; rw [em, ed]
      rw [es, ed]
      refine (ml_unlock hin h.l1 h.l2 k hk u x (h.rk k hk u) ⟨(h.prg k).1, h.pc3 k hk s3⟩ s3).mono ?_
      rintro e w' ⟨rfl, a⟩
      exact ⟨rfl, ⟨_, a.raw, rfl⟩, a.ref, a.wr⟩
    · have ed : f.did L k u = Dd.no := by unfold FL.did; rw [if_pos ht, Int.toNat_natCast, if_neg s1, if_neg s3]
      have e0 : f.s.fin (k : Int) 0 = f.s := fin_no f.s k
      have es : f.step L k u = f := by
        unfold FL.step
        rw [ed, fin_no]
        unfold FL.mid
        rw [if_pos ht, Int.toNat_natCast, if_neg s1, if_neg s3]
      rw [ed, es]
      have hs : f.s.st k = 0 ∨ f.s.st k = 2 := by omega
      have c : Calls Tryz.prog 111 #[.pointer (some ⟨M.r, 0, none⟩), .pointer (some ⟨M.pr, 0, none⟩), .int .i64 (k : Int), .int .i64 u, .int .i64 x] w (RkPost w M bk dv (f.s.fin k 0) (fv f) f.ps Dd.no.rval) := by
        rcases hs with hs | hs
        · exact ml_idle0 hin k hk u x hs
        · exact ml_idle2 hin k hk u x hs
      rw [e0] at c
      refine c.mono ?_
      rintro e w' ⟨rfl, a⟩
      exact ⟨rfl, ⟨_, a.raw, rfl⟩, a.ref, a.wr⟩
  · have ed : f.did L t u = Dd.no := by unfold FL.did; rw [if_neg ht]
    have es : f.step L t u = f := by
      unfold FL.step
      have e0 : endO f.s t Dd.no.ev = none := by unfold endO; rw [if_neg ht]
      have e1 : f.s.fin t Dd.no.ev = f.s := by unfold SS.fin; rw [e0]
      rw [ed, e1]
      unfold FL.mid
      rw [if_neg ht]
    rw [ed, es]
    refine (ml_out hin t ht u x).mono ?_
    rintro e w' ⟨rfl, a⟩
    exact ⟨rfl, ⟨_, a.raw, rfl⟩, a.ref, a.wr⟩
/-! ### its seats -/
theorem ml_seats {w : World} {M : Mp} {s : SS} {v : Nat → Nat → Int} (h : MlRaw w M s v) : Calls Tryz.prog 110 #[.pointer (some ⟨M.r, 0, none⟩)] w fun e w' => e = .returned (.pointer (some ⟨M.sr, 0, none⟩)) ∧ w = w' := by
  have c0 := h.cell0
  clear h
  go_enter Tryz.func110, Tryz.ntmps110
  go_wp2
  go_ret
  exact ⟨rfl, rfl⟩

/-- what bounds a step of both -/
theorem mm_in {w : World} {M : Mp} {bk : Nat} {so : Option Addr} {cap : Nat} {dv : Value} {f : FL} {L : Lp} {W : List Nat} (hl : LkAt w L f) (ml : MlAt w M f) (hr : RefAt w M.base M.pr bk so cap dv f.ps) (hO : OrdI f W)
    (n1 : 1 ≤ f.s.n) (hD : f.ps.D.length < 1000000) (hws : f.ps.ws.length ≤ 4096) (hb : M.base ≤ w.heap.size) (ha : M.a = 0) (l1 : L.a1 = 0) (l2 : L.a2 = 1) : MmIn w M bk so cap dv f L := by
  obtain ⟨g, Q, V, ho, _⟩ := hO
  have hac := ho.ac
  have h8 := ho.n8
  refine ⟨ml, hr, n1, by omega, hD, hws, by omega, hb, by rw [ha]; omega, by rw [l1, ha], by rw [l2, ha]; rfl, ho.prg, ho.sts, ho.pc3, fun k hk u => ?_⟩
  obtain ⟨p, hp⟩ := hl.raw.pli hk
  exact ⟨hp.cl.2, hp.nd.2, hp.ahr, hp.ofr, hp.wvr, fun K a => hl.tell u K a⟩

theorem two_0 (w : World) (A B : Obj) : ((w.alloc A).alloc B).heap[w.heap.size]? = some A := by
  rw [Go.Deep.blk_alloc_lt _ _ _ (by rw [Go.Deep.nblk_alloc]; omega), Go.Deep.blk_alloc_new]
theorem two_1 (w : World) (A B : Obj) : ((w.alloc A).alloc B).heap[w.heap.size + 1]? = some B := by
  rw [← Go.Deep.nblk_alloc w A, Go.Deep.blk_alloc_new]
/-! ### how many accesses a call has -/
theorem acc_do (s : PSta) (t K a old v : Int) : cntI (doS s t K a old v).ac t ≤ cntI s.ac t + 1 ∧ cntI s.ac t ≤ cntI (doS s t K a old v).ac t := by
  unfold doS
  split
  · show cntI (bump s.ac t.toNat true) t ≤ _ ∧ _ ≤ cntI (bump s.ac t.toNat true) t
    unfold cntI bump
    by_cases h0 : 0 ≤ t
    · rw [if_pos h0, if_pos h0, if_pos rfl]
      by_cases hl : t.toNat < s.ac.length
      · rw [show (s.ac.set t.toNat (s.ac.getD t.toNat 0 + 1)).getD t.toNat 0 = s.ac.getD t.toNat 0 + 1 by simp [hl]]
        omega
      · rw [List.set_eq_of_length_le (by omega)]
        omega
    · rw [if_neg h0, if_neg h0]; omega
  · omega
theorem acq_ps (f : FL) (L : Lp) (k : Nat) (u : Int) : ∃ K a o v, (f.acq L k u).ps = doS f.ps u K a o v := by
  unfold FL.acq
  by_cases p0 : f.pc k = 0
  · rw [if_pos p0]; exact ⟨_, _, _, _, rfl⟩
  rw [if_neg p0]
  by_cases p1 : f.pc k = 1
  · rw [if_pos p1]; exact ⟨_, _, _, _, rfl⟩
  rw [if_neg p1]
  by_cases p2 : f.pc k = 2
  · rw [if_pos p2]; exact ⟨_, _, _, _, rfl⟩
  rw [if_neg p2]
  by_cases p3 : f.pc k = 3
  · rw [if_pos p3]; exact ⟨_, _, _, _, rfl⟩
  rw [if_neg p3]
  by_cases p4 : f.pc k = 4
  · rw [if_pos p4]; exact ⟨_, _, _, _, rfl⟩
  rw [if_neg p4]
  by_cases p5 : f.pc k = 5
  · rw [if_pos p5]; exact ⟨_, _, _, _, rfl⟩
  rw [if_neg p5]
  by_cases p6 : f.pc k = 6
  · rw [if_pos p6]; exact ⟨_, _, _, _, rfl⟩
  rw [if_neg p6]
  exact ⟨_, _, _, _, rfl⟩
theorem rel_ps (f : FL) (L : Lp) (k : Nat) (u : Int) : ∃ K a o v, (f.rel L k u).ps = doS f.ps u K a o v := by
  unfold FL.rel
  by_cases p0 : f.pc k = 0
  · rw [if_pos p0]; exact ⟨_, _, _, _, rfl⟩
  rw [if_neg p0]
  exact ⟨_, _, _, _, rfl⟩
theorem acc_mid (f : FL) (L : Lp) (t : Int) : cntI (f.mid L t t).ps.ac t ≤ cntI f.ps.ac t + 1 ∧ cntI f.ps.ac t ≤ cntI (f.mid L t t).ps.ac t := by
  unfold FL.mid
  by_cases h0 : 0 ≤ t ∧ t < f.s.n
  · rw [if_pos h0]
    by_cases h1 : f.s.st t.toNat = 1
    · rw [if_pos h1]
      obtain ⟨K, a, o, v, e⟩ := acq_ps f L t.toNat t
      rw [e]; exact acc_do _ _ _ _ _ _
    · rw [if_neg h1]
      by_cases h3 : f.s.st t.toNat = 3
      · rw [if_pos h3]
        obtain ⟨K, a, o, v, e⟩ := rel_ps f L t.toNat t
        rw [e]; exact acc_do _ _ _ _ _ _
      · rw [if_neg h3]; omega
  · rw [if_neg h0]; omega
/-- the calls that came, as they lie in the memory that was there -/
def OpsAt (w0 : World) (so : Option Addr) (n : Nat) (z : Nat → Nat → Int) : Prop := n = 0 ∨ ∃ b o, so = some ⟨b, o, none⟩ ∧ ∀ i, i < n → ∀ j, j < 4 → w0.cell? ⟨b, o + (i * 4 + j), none⟩ = some (.int .i64 (z i j))
end Go.Proofs.YteacdcdjdbobnaaGreat
