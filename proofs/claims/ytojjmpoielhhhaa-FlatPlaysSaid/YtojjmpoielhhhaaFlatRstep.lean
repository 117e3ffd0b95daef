/- The steps of the reference's ticket lock: what each tells, and what it leaves. -/
import Derived.Test.YtojjmpoielhhhaaFlatRef
import Derived.Test.YtojjmpoielhhhaaFlatOrd
import Derived.WalkLawsBesides
import Derived.Outline
import Derived.Deep.QuietTactic
import Derived.Deep.RegionHeld3
import Derived.Deep.RegionWith
import Derived.BigQuiet
import Derived.BigFrame
import Derived.Handy
import Derived.OpenShut
import Derived.Lib.Walk
import Derived.WalkKit
import Derived.Lib.Hide
namespace Go.Proofs.Ytojjmpoielhhhaa
open Go.RowKit Go.BigFrame
set_option linter.unusedVariables false
set_option maxRecDepth 100000

def MsPost (w : World) (M : Mp) (bk : Nat) (dv : Value) (s : SS) (p : Nat → Bool) (mi : Nat → Int) (ps : PSta) (d : Dd) (e : Ending) (w' : World) : Prop :=
  e = .returned d.rval ∧ MlRaw w' M s p mi ∧ RefSt w' M.base M.pr ps ∧ Wrote (MG M bk dv) w w'
/-- what bounds a step's world -/
structure MsIn (w : World) (M : Mp) (bk : Nat) (so : Option Addr) (cap : Nat) (dv : Value) (s : SS) (p : Nat → Bool) (mi : Nat → Int) (ps : PSta) : Prop where
  raw : MlRaw w M s p mi
  ref : RefAt w M.base M.pr bk so cap dv ps
  n1 : 1 ≤ s.n
  n2 : s.n ≤ 64
  hD : ps.D.length < 1000000
  hws : ps.ws.length ≤ 4096
  hac : ps.ac.length ≤ 64
  hb : M.base ≤ w.heap.size
  ha : 0 ≤ M.a ∧ M.a ≤ 4096
theorem foot_lt {w : World} {base r bk : Nat} {so : Option Addr} {cap : Nat} {dv : Value} {ps : PSta} (h : RefAt w base r bk so cap dv ps) {k : Nat} (hk : Foot r bk dv k) : base ≤ k ∧ k < w.heap.size := by
  rcases hk with rfl | rfl | hk
  · exact ⟨h.low.1, blk_lt h.obj⟩
  · exact ⟨h.low.2.1, h.counts.lt⟩
  · exact ⟨(h.touched.lt k hk).1, (h.touched.lt k hk).2⟩
theorem MsIn.start {w : World} {M : Mp} {bk : Nat} {so : Option Addr} {cap : Nat} {dv : Value} {s : SS} {p : Nat → Bool} {mi : Nat → Int} {ps : PSta} (h : MsIn w M bk so cap dv s p mi ps) :
    Fm w ((w.alloc (.cells #[.int .i64 0, .int .i64 0, .int .i64 0, .int .i64 0] 111)).alloc (.cells #[.int .i64 0, .int .i64 0, .int .i64 0, .int .i64 0] 111)) M bk dv s p mi ps w.heap.size (w.heap.size + 1) Dd.no ∧
    RefAt ((w.alloc (.cells #[.int .i64 0, .int .i64 0, .int .i64 0, .int .i64 0] 111)).alloc (.cells #[.int .i64 0, .int .i64 0, .int .i64 0, .int .i64 0] 111)) M.base M.pr bk so cap dv ps := by
  have e1 : (w.alloc (.cells #[.int .i64 0, .int .i64 0, .int .i64 0, .int .i64 0] 111)).heap.size = w.heap.size + 1 := Go.Deep.nblk_alloc _ _
  have k : Wrote Nil w ((w.alloc (.cells #[.int .i64 0, .int .i64 0, .int .i64 0, .int .i64 0] 111)).alloc (.cells #[.int .i64 0, .int .i64 0, .int .i64 0, .int .i64 0] 111)) := ((Wrote.refl _ w).alloc _).alloc _
  have hr := h.ref.after k fun _ _ => id
  refine ⟨⟨h.raw.after k, ⟨bk, so, cap, dv, hr⟩, ?_, ?_, k.mono fun _ _ e => e.elim, ⟨Nat.le_refl _, Nat.le_succ _, by omega⟩, fun j hj => ?_, fun j hj => (foot_lt h.ref hj).1, h.hb⟩, hr⟩
  · rw [Go.Deep.blk_alloc_lt _ _ _ (by rw [e1]; omega), Go.Deep.blk_alloc_new]; rfl
  · rw [← e1, Go.Deep.blk_alloc_new]; rfl
  · rcases hj with hj | hj
    · exact h.raw.lt hj
    · exact (foot_lt h.ref hj).2
theorem Fm.dcell {w X : World} {M : Mp} {bk : Nat} {dv : Value} {s : SS} {p : Nat → Bool} {mi : Nat → Int} {ps : PSta} {R C : Nat} {d : Dd} (h : Fm w X M bk dv s p mi ps R C d) :
    X.cell? ⟨C, 0, none⟩ = some (.int .i64 d.ev) ∧ X.cell? ⟨C, 1, none⟩ = some (.int .i64 (b2i d.enq)) ∧ X.cell? ⟨C, 2, none⟩ = some (.int .i64 (b2i d.arr)) ∧ X.cell? ⟨C, 3, none⟩ = some (.int .i64 (b2i d.lead)) := by
  rw [blk_cell h.did, blk_cell h.did, blk_cell h.did, blk_cell h.did]; exact ⟨rfl, rfl, rfl, rfl⟩
theorem Fm.rcell {w X : World} {M : Mp} {bk : Nat} {dv : Value} {s : SS} {p : Nat → Bool} {mi : Nat → Int} {ps : PSta} {R C : Nat} {d : Dd} (h : Fm w X M bk dv s p mi ps R C d) :
    X.cell? ⟨R, 0, none⟩ = some (.int .i64 0) ∧ X.cell? ⟨R, 1, none⟩ = some (.int .i64 0) ∧ X.cell? ⟨R, 2, none⟩ = some (.int .i64 0) ∧ X.cell? ⟨R, 3, none⟩ = some (.int .i64 0) := by
  rw [blk_cell h.res, blk_cell h.res, blk_cell h.res, blk_cell h.res]; exact ⟨rfl, rfl, rfl, rfl⟩
theorem Fm.rfrz {w X : World} {M : Mp} {bk : Nat} {dv : Value} {s : SS} {p : Nat → Bool} {mi : Nat → Int} {ps : PSta} {R C : Nat} {d : Dd} (h : Fm w X M bk dv s p mi ps R C d) :
    X.frozen? ⟨R, 0, none⟩ = false ∧ X.frozen? ⟨R, 1, none⟩ = false ∧ X.frozen? ⟨R, 2, none⟩ = false ∧ X.frozen? ⟨R, 3, none⟩ = false := ⟨blk_frozen h.res 0, blk_frozen h.res 1, blk_frozen h.res 2, blk_frozen h.res 3⟩
/-- the end: the result is laid -/
theorem Fm.told {w X : World} {M : Mp} {bk : Nat} {dv : Value} {s : SS} {p : Nat → Bool} {mi : Nat → Int} {ps : PSta} {R C : Nat} {d : Dd} (h : Fm w X M bk dv s p mi ps R C d) :
    MsPost w M bk dv s p mi ps d (.returned d.rval) ((((X.setCell ⟨R, 0, none⟩ (.int .i64 d.ev)).setCell ⟨R, 1, none⟩ (.int .i64 (b2i d.enq))).setCell ⟨R, 2, none⟩ (.int .i64 (b2i d.arr))).setCell ⟨R, 3, none⟩ (.int .i64 (b2i d.lead))) := by
  have k := wrote4 X R (.int .i64 d.ev) (.int .i64 (b2i d.enq)) (.int .i64 (b2i d.arr)) (.int .i64 (b2i d.lead))
  have hn := h.new
  have hC : ∀ b, MG M bk dv b → ¬ One R b := fun b hb e => by have := h.old b hb; cases e; omega
  have hbw := h.bw
  have hlr := h.raw.low.1
  exact ⟨rfl, h.raw.wrote k (fun e => by cases e; omega) (hC _ (.inl (.inl rfl))) (hC _ (.inl (.inr (.inl rfl)))) fun j hj => hC j (.inl (.inr (.inr hj))), ref_off h.ref k h.res, h.wr.trans k fun b hb e => by cases e; omega⟩
theorem i_rid : (Try.prog.info? 111).map (·.size) = some 4 := by kernel_rfl

theorem end_none {s : SS} {k : Nat} {ev : Int} (hk : k < s.n) (h : behindI (s.st k) ev = none) : s.fin k ev = s ∧ endI s k ev = 0 := by
  refine ⟨fin_none h, ?_⟩
  have e : endO s k ev = none := by unfold endO; rw [if_pos ⟨by omega, by omega⟩, Int.toNat_natCast, h]
  unfold endI endB
  rw [e]
  rfl
theorem end_some {s : SS} {k : Nat} {ev y : Int} (hk : k < s.n) (h : behindI (s.st k) ev = some y) : s.fin k ev = s.set k y 0 ∧ endI s k ev = 1 := by
  refine ⟨fin_some hk h, ?_⟩
  have e : endO s k ev = some y := by unfold endO; rw [if_pos ⟨by omega, by omega⟩, Int.toNat_natCast, h]
  unfold endI endB
  rw [e]
  rfl
set_option maxHeartbeats 4000000 in
theorem ml_draw {w : World} {M : Mp} {bk : Nat} {so : Option Addr} {cap : Nat} {dv : Value} {s : SS} {p : Nat → Bool} {mi : Nat → Int} {ps : PSta} (h : MsIn w M bk so cap dv s p mi ps) (k : Nat) (hk : k < s.n) (u x : Int) (s1 : s.st k = 1) (hp : p k = false) :
    Calls Try.prog 97 #[.pointer (some ⟨M.r, 0, none⟩), .pointer (some ⟨M.pr, 0, none⟩), .int .i64 (k : Int), .int .i64 u, .int .i64 x] w (MsPost w M bk dv s (upd p k true) (upd mi k (tellS ps u 5 M.a)) (doS ps u 5 M.a 0 1) ⟨0, true, false, false⟩) := by
  obtain ⟨hF, hR⟩ := h.start
  have n1 := h.n1
  have n2 := h.n2
  obtain ⟨g, cg, hgv, hg⟩ := SrAt.stV hF.raw.seat (by omega)
  have b2 := (h.raw.after ((Wrote.refl Nil w).alloc (.cells #[.int .i64 0, .int .i64 0, .int .i64 0, .int .i64 0] 111))).cell2
  have c0 := hF.raw.cell0
  have c1 := hF.raw.cell1
  have c2 := hF.raw.cell2
  have c3 := hF.raw.cell3
  have cs := SrAt.cell0 hF.raw.seat
  rw [hgv] at cs
  have ct := (hg k _ (stL_at s hk)).1
  have cp := hF.raw.pcC hk
  have cm := hF.raw.miC hk
  have zp := hF.raw.pcZ k
  have zm := hF.raw.miZ k
  have i0 : (0 : Int) ≤ (k : Int) := by omega
  have i1 : (k : Int) < s.n := by omega
  have i2 : ¬ (k : Int) < 0 := by omega
  have i3 : ¬ (s.n : Int) ≤ (k : Int) := by omega
  have bsz : M.base ≤ ((w.alloc (.cells #[.int .i64 0, .int .i64 0, .int .i64 0, .int .i64 0] 111)).alloc (.cells #[.int .i64 0, .int .i64 0, .int .i64 0, .int .i64 0] 111)).drew.heap.size := Nat.le_trans hF.bw (((Wrote.refl Nil w).alloc _).alloc _).drew.size
  have cA := ra_add (hR.after ((Wrote.refl Nil _).drew) fun _ _ => id) u M.a 1 (by omega) (by omega) h.hD h.hws h.hac bsz
  have HEE := Lib.hid (end_none (s := s) (ev := 0) hk (by rw [s1]; rfl))
  rw [s1] at ct
  rw [hp] at cp
  have HE := Lib.hid (And.intro h (And.intro hF hk))
  have HG := Lib.hid hgv
  obtain ⟨Z, hZ⟩ : ∃ Z, Z = (w.alloc (.cells #[.int .i64 0, .int .i64 0, .int .i64 0, .int .i64 0] 111)).alloc (.cells #[.int .i64 0, .int .i64 0, .int .i64 0, .int .i64 0] 111) := ⟨_, rfl⟩
  have HZ := Lib.hid hZ
  rw [← hZ] at HE cA
  clear hZ
  clear hF hR h hg hgv s1
  go_enter Try.func97, Try.ntmps97
  go_wp2
  rw [← HZ.out]
  rw [← HZ.out] at c1 c3 zm
  clear c0 c2 cs ct cp cm zp
  go_region_held3 (fun w' => w'.cell? ⟨M.r, 1, none⟩ = some (.int .i64 M.a) ∧ w'.cell? ⟨M.r, 3, none⟩ = some (.slice (some ⟨M.mn, 0, none⟩) s.n s.n)) (first | exact ⟨c1, c3⟩ | exact ⟨d1, d3⟩ | exact ⟨q1, q3⟩) (first | (go_at_call 98; (with_reducible refine cA.mono ?_); intro e w2 hq; unfold RaPost at hq; obtain ⟨rfl, hRS, hW⟩ := hq; have hA := HE.out.2.1.drew.port hRS hW; have d1 := hA.raw.cell1; have d3 := hA.raw.cell3; have y0 := hA.raw.miC HE.out.2.2; have yz := hA.raw.miZ k; have hB := hA.setM k (tellS ps u 5 M.a); have q1 := hB.raw.cell1; have q2 := hB.raw.cell2; have q3 := hB.raw.cell3; have qp := hB.raw.pcC HE.out.2.2; have qz := hB.raw.pcZ k; have hC : Fm w ((w2.setCell ⟨M.mn, k, none⟩ (.int .u32 (tellS ps u 5 M.a))).setCell ⟨M.pc, k, none⟩ (.int .i64 1)) M bk dv s (upd p k true) (upd mi k (tellS ps u 5 M.a)) (doS ps u 5 M.a 0 1) w.heap.size (w.heap.size + 1) Dd.no := hB.setP k true; have k1 := hC.dcell.2.1; have kz := blk_frozen hC.did 1; have HC := Lib.hid hC; clear hA hB hC hRS hW))
  go_wp2
  obtain ⟨X, hX⟩ : ∃ X, X = ((w2.setCell ⟨M.mn, k, none⟩ (.int .u32 (tellS ps u 5 M.a))).setCell ⟨M.pc, k, none⟩ (.int .i64 1)).setCell ⟨w.heap.size + 1, 1, none⟩ (.int .i64 1) := ⟨_, rfl⟩
  have hFX : Fm w X M bk dv s (upd p k true) (upd mi k (tellS ps u 5 M.a)) (doS ps u 5 M.a 0 1) w.heap.size (w.heap.size + 1) ⟨0, true, false, false⟩ := by rw [hX]; exact HC.out.setD 1 (.int .i64 1) ⟨0, true, false, false⟩ rfl
  rw [← hX]
  clear hX
  have n0 := hFX.drew.raw.cell0
  have nd0 := hFX.drew.dcell.1
  have ns := SrAt.cell0 hFX.drew.raw.seat
  rw [HG.out] at ns
  have cE := rs_end hFX.drew.raw.seat n1 n2 (k : Int) 0
  rw [HEE.out.1, HEE.out.2] at cE
  have HX := Lib.hid hFX
  clear hFX
  refine wp_region_noPanic ?_
  refine wp_region_held_drew (S := fun W => W.cell? ⟨M.r, 0, none⟩ = some (.pointer (some ⟨M.sr, 0, none⟩)) ∧ W.cell? ⟨w.heap.size + 1, 0, none⟩ = some (.int .i64 0) ∧ W.cell? ⟨M.sr, 0, none⟩ = some (.slice (some ⟨g, 0, none⟩) s.n cg)) (by kernel_rfl) ⟨n0, nd0, ns⟩ (fun hHeld => ?_)
  refine wpAnyH_take (i := 0) (v := ?v1) rfl (by kernel_rfl) (by kernel_rfl) (by kernel_rfl) (fun _ _ _ h => h) (Or.inl ⟨by rfl, ?hy1⟩) (by assumption) ?rest1
  case hy1 => intro w hSw; (try dsimp only at hSw); go_simp; try with_reducible rfl
  (try simp only [Act.put, List.getElem_toArray, List.getElem_cons_zero, List.setIfInBounds_toArray, List.set_cons_zero, List.set_cons_succ])
  refine wpAnyH_take (i := 1) (v := ?v2) rfl (by kernel_rfl) (by kernel_rfl) (by kernel_rfl) (fun _ _ _ h => h) (Or.inl ⟨by rfl, ?hy2⟩) (by assumption) ?rest2
  case hy2 => intro w hSw; (try dsimp only at hSw); go_simp; try with_reducible rfl
  (try simp only [Act.put, List.getElem_toArray, List.getElem_cons_succ, List.getElem_cons_zero, List.setIfInBounds_toArray, List.set_cons_zero, List.set_cons_succ])
  refine wpAnyH_take (i := 2) (v := ?v3) rfl (by kernel_rfl) (by kernel_rfl) (by kernel_rfl) (fun _ _ _ h => h) (Or.inl ⟨by rfl, ?hy3⟩) (by assumption) ?rest3
  case hy3 => intro w hSw; (try dsimp only at hSw); go_simp; try with_reducible rfl
  (try simp only [Act.put, List.getElem_toArray, List.getElem_cons_succ, List.getElem_cons_zero, List.setIfInBounds_toArray, List.set_cons_zero, List.set_cons_succ])
  refine wpAnyH_take (i := 3) (v := ?v4) rfl (by kernel_rfl) (by kernel_rfl) (by kernel_rfl) (fun _ _ _ h => h) (Or.inl ⟨by rfl, ?hy4⟩) (by assumption) ?rest4
  case hy4 => intro w hSw; (try dsimp only at hSw); go_simp; try with_reducible rfl
  (try simp only [Act.put, List.getElem_toArray, List.getElem_cons_succ, List.getElem_cons_zero, List.setIfInBounds_toArray, List.set_cons_zero, List.set_cons_succ])
  refine wpAnyH_take (i := 4) (v := ?v5) rfl (by kernel_rfl) (by kernel_rfl) (by kernel_rfl) (fun _ _ _ h => h) (Or.inl ⟨by rfl, ?hy5⟩) (by assumption) ?rest5
  case hy5 => intro w hSw; (try dsimp only at hSw); go_simp; try with_reducible rfl
  (try simp only [Act.put, List.getElem_toArray, List.getElem_cons_succ, List.getElem_cons_zero, List.setIfInBounds_toArray, List.set_cons_zero, List.set_cons_succ])
  refine wpAnyH_take (i := 5) (v := ?v6) rfl (by kernel_rfl) (by kernel_rfl) (by kernel_rfl) (fun _ _ _ h => h) (Or.inl ⟨by rfl, ?hy6⟩) (by assumption) ?rest6
  case hy6 => intro w hSw; (try dsimp only at hSw); go_simp; try with_reducible rfl
  (try simp only [Act.put, List.getElem_toArray, List.getElem_cons_succ, List.getElem_cons_zero, List.setIfInBounds_toArray, List.set_cons_zero, List.set_cons_succ])
  refine wpAnyH_take (i := 6) (v := ?v7) rfl (by kernel_rfl) (by kernel_rfl) (by kernel_rfl) (fun _ _ _ h => h) (Or.inl ⟨by rfl, ?hy7⟩) (by assumption) ?rest7
  case hy7 => intro w hSw; (try dsimp only at hSw); go_simp; try with_reducible rfl
  (try simp only [Act.put, List.getElem_toArray, List.getElem_cons_succ, List.getElem_cons_zero, List.setIfInBounds_toArray, List.set_cons_zero, List.set_cons_succ])
  refine wpAnyH_ready (rs := [7]) (by kernel_rfl) (by simp) ?_
  refine AllReadyH.cons rfl (fun K hK => ?_) AllReadyH.nil
  go_simp
  go_at_call 101
  with_reducible refine cE.mono ?_
  intro e w4 hq
  have hF4 := HX.out.drew.ends (s' := s) rfl hq
  unfold RsPost at hq
  obtain ⟨rfl, _, _⟩ := hq
  obtain ⟨p0, p1, p2, p3⟩ := hF4.dcell
  obtain ⟨v0, v1, v2, v3⟩ := hF4.rcell
  obtain ⟨x0, x1, x2, x3⟩ := hF4.rfrz
  have m0 := hF4.raw.cell0
  have ms := SrAt.cell0 hF4.raw.seat
  rw [HG.out] at ms
  have HT := Lib.hid hF4
  clear hF4
  go_wp2
  refine hK.out _ _ (⟨m0, p0, ms⟩) (fun hHeld2 => ?_)
  clear hHeld K hK
  have hHeld := hHeld2
  clear hHeld2
  (try simp only [Act.put, List.getElem_toArray, List.getElem_cons_succ, List.getElem_cons_zero, List.setIfInBounds_toArray, List.set_cons_zero, List.set_cons_succ])
  refine wpAnyH_take (i := 8) (v := ?v8) rfl (by kernel_rfl) (by kernel_rfl) (by kernel_rfl) (fun _ _ _ h => h) (Or.inl ⟨by rfl, ?hy8⟩) (by assumption) ?rest8
  case hy8 => intro w hSw; (try dsimp only at hSw); go_simp; try with_reducible rfl
  (try simp only [Act.put, List.getElem_toArray, List.getElem_cons_succ, List.getElem_cons_zero, List.setIfInBounds_toArray, List.set_cons_zero, List.set_cons_succ])
  refine wpAnyH_take (i := 9) (v := ?v9) rfl (by kernel_rfl) (by kernel_rfl) (by kernel_rfl) (fun _ _ _ h => h) (Or.inl ⟨by rfl, ?hy9⟩) (by assumption) ?rest9
  case hy9 => intro w hSw; (try dsimp only at hSw); go_simp; try with_reducible rfl
  (try simp only [Act.put, List.getElem_toArray, List.getElem_cons_succ, List.getElem_cons_zero, List.setIfInBounds_toArray, List.set_cons_zero, List.set_cons_succ])
  refine wpAnyH_take (i := 10) (v := undef) rfl (by kernel_rfl) (by kernel_rfl) (by kernel_rfl) (fun _ _ _ h => h) (Or.inr ⟨by rfl, rfl⟩) (by assumption) ?rest10
  (try simp only [Act.put, List.getElem_toArray, List.getElem_cons_succ, List.getElem_cons_zero, List.setIfInBounds_toArray, List.set_cons_zero, List.set_cons_succ])
  refine wpAnyH_take (i := 11) (v := undef) rfl (by kernel_rfl) (by kernel_rfl) (by kernel_rfl) (fun _ _ _ h => h) (Or.inr ⟨by rfl, rfl⟩) (by assumption) ?rest11
  (try simp only [Act.put, List.getElem_toArray, List.getElem_cons_succ, List.getElem_cons_zero, List.setIfInBounds_toArray, List.set_cons_zero, List.set_cons_succ])
  refine wpAnyH_take (i := 12) (v := undef) rfl (by kernel_rfl) (by kernel_rfl) (by kernel_rfl) (fun _ _ _ h => h) (Or.inr ⟨by rfl, rfl⟩) (by assumption) ?rest12
  (try simp only [Act.put, List.getElem_toArray, List.getElem_cons_succ, List.getElem_cons_zero, List.setIfInBounds_toArray, List.set_cons_zero, List.set_cons_succ])
  refine wpAnyH_take (i := 13) (v := undef) rfl (by kernel_rfl) (by kernel_rfl) (by kernel_rfl) (fun _ _ _ h => h) (Or.inr ⟨by rfl, rfl⟩) (by assumption) ?rest13
  (try simp only [Act.put, List.getElem_toArray, List.getElem_cons_succ, List.getElem_cons_zero, List.setIfInBounds_toArray, List.set_cons_zero, List.set_cons_succ])
  refine wpAnyH_take (i := 14) (v := undef) rfl (by kernel_rfl) (by kernel_rfl) (by kernel_rfl) (fun _ _ _ h => h) (Or.inr ⟨by rfl, rfl⟩) (by assumption) ?rest14
  (try simp only [Act.put, List.getElem_toArray, List.getElem_cons_succ, List.getElem_cons_zero, List.setIfInBounds_toArray, List.set_cons_zero, List.set_cons_succ])
  refine wpAnyH_take (i := 15) (v := undef) rfl (by kernel_rfl) (by kernel_rfl) (by kernel_rfl) (fun _ _ _ h => h) (Or.inr ⟨by rfl, rfl⟩) (by assumption) ?rest15
  (try simp only [Act.put, List.getElem_toArray, List.getElem_cons_succ, List.getElem_cons_zero, List.setIfInBounds_toArray, List.set_cons_zero, List.set_cons_succ])
  refine wpAnyH_take (i := 16) (v := undef) rfl (by kernel_rfl) (by kernel_rfl) (by kernel_rfl) (fun _ _ _ h => h) (Or.inr ⟨by rfl, rfl⟩) (by assumption) ?rest16
  (try simp only [Act.put, List.getElem_toArray, List.getElem_cons_succ, List.getElem_cons_zero, List.setIfInBounds_toArray, List.set_cons_zero, List.set_cons_succ])
  refine wpAnyH_take (i := 17) (v := undef) rfl (by kernel_rfl) (by kernel_rfl) (by kernel_rfl) (fun _ _ _ h => h) (Or.inr ⟨by rfl, rfl⟩) (by assumption) ?rest17
  (try simp only [Act.put, List.getElem_toArray, List.getElem_cons_succ, List.getElem_cons_zero, List.setIfInBounds_toArray, List.set_cons_zero, List.set_cons_succ])
  refine wpAnyH_take (i := 18) (v := undef) rfl (by kernel_rfl) (by kernel_rfl) (by kernel_rfl) (fun _ _ _ h => h) (Or.inr ⟨by rfl, rfl⟩) (by assumption) ?rest18
  (try simp only [Act.put, List.getElem_toArray, List.getElem_cons_succ, List.getElem_cons_zero, List.setIfInBounds_toArray, List.set_cons_zero, List.set_cons_succ])
  refine wpAnyH_take (i := 19) (v := undef) rfl (by kernel_rfl) (by kernel_rfl) (by kernel_rfl) (fun _ _ _ h => h) (Or.inr ⟨by rfl, rfl⟩) (by assumption) ?rest19
  (try simp only [Act.put, List.getElem_toArray, List.getElem_cons_succ, List.getElem_cons_zero, List.setIfInBounds_toArray, List.set_cons_zero, List.set_cons_succ])
  refine wpAnyH_take (i := 20) (v := undef) rfl (by kernel_rfl) (by kernel_rfl) (by kernel_rfl) (fun _ _ _ h => h) (Or.inr ⟨by rfl, rfl⟩) (by assumption) ?rest20
  (try simp only [Act.put, List.getElem_toArray, List.getElem_cons_succ, List.getElem_cons_zero, List.setIfInBounds_toArray, List.set_cons_zero, List.set_cons_succ])
  refine wpAnyH_take (i := 21) (v := ?v21) rfl (by kernel_rfl) (by kernel_rfl) (by kernel_rfl) (fun _ _ _ h => h) (Or.inl ⟨by rfl, ?hy21⟩) (by assumption) ?rest21
  case hy21 => intro w hSw; (try dsimp only at hSw); go_simp; try with_reducible rfl
  (try simp only [Act.put, List.getElem_toArray, List.getElem_cons_succ, List.getElem_cons_zero, List.setIfInBounds_toArray, List.set_cons_zero, List.set_cons_succ])
  refine wpAnyH_done (by kernel_rfl) ?_ _
  refine NoPanic.normal ?_
  go_wp2
  refine bodyPost_ret (v := Dd.rval ⟨0, true, false, false⟩) (results_cell_row rfl _ _ w.heap.size 111 _ (0, 0) _ rfl (set4 HT.out.res rfl _ _ _ _) Try.underlying111 rfl i_rid) rfl HT.out.told
end Go.Proofs.Ytojjmpoielhhhaa
