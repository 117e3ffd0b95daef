/- Further steps of the reference's ticket lock. -/
import Derived.Test.YtojjmpoielhhhaaFlatRstep
import Derived.WalkLawsBesides
import Derived.Outline
import Derived.Deep.QuietTactic
import Derived.Deep.RegionHeld3
import Derived.Deep.RegionWith
import Derived.BigQuiet
import Derived.BigFrame
import Derived.Handy
import Derived.OpenShut
import Derived.Lib.Walk
import Derived.WalkKit
import Derived.Lib.Hide
namespace Go.Proofs.Ytojjmpoielhhhaa
open Go.RowKit Go.BigFrame
set_option linter.unusedVariables false
set_option maxRecDepth 100000

theorem SrAt.at_g {w : World} {r : Nat} {hv dv : Value} {n m g cap : Nat} {xs ys : List Int} {timed probed : Bool} (h : SrAt w r hv dv n m xs ys timed probed) (e : hv = .slice (some ⟨g, 0, none⟩) n cap) (hn : 0 < n) {k : Nat} {x : Int} (hx : xs[k]? = some x) : w.cell? ⟨g, k, none⟩ = some (.int .i64 x) := by
  obtain ⟨g', cap', e', hg⟩ := SrAt.stV h hn
  rw [e] at e'
  obtain ⟨rfl, _⟩ : g = g' ∧ cap = cap' := by simpa using e'
  exact (hg k x hx).1
set_option maxHeartbeats 4000000 in
theorem ml_grant {w : World} {M : Mp} {bk : Nat} {so : Option Addr} {cap : Nat} {dv : Value} {s : SS} {p : Nat → Bool} {mi : Nat → Int} {ps : PSta} (h : MsIn w M bk so cap dv s p mi ps) (k : Nat) (hk : k < s.n) (u x : Int) (s1 : s.st k = 1) (hp : p k = true) (he : tellS ps u 1 (M.a + 1) = mi k) :
    Calls Try.prog 97 #[.pointer (some ⟨M.r, 0, none⟩), .pointer (some ⟨M.pr, 0, none⟩), .int .i64 (k : Int), .int .i64 u, .int .i64 x] w (MsPost w M bk dv (s.set k 2 0) p mi (doS ps u 1 (M.a + 1) 0 0) ⟨1, false, false, false⟩) := by
  obtain ⟨hF, hR⟩ := h.start
  have n1 := h.n1
  have n2 := h.n2
  obtain ⟨g, cg, hgv, hg⟩ := SrAt.stV hF.raw.seat (by omega)
  have b2 := (h.raw.after ((Wrote.refl Nil w).alloc (.cells #[.int .i64 0, .int .i64 0, .int .i64 0, .int .i64 0] 111))).cell2
  have c0 := hF.raw.cell0
  have c1 := hF.raw.cell1
  have c2 := hF.raw.cell2
  have c3 := hF.raw.cell3
  have cs := SrAt.cell0 hF.raw.seat
  rw [hgv] at cs
  have ct := (hg k _ (stL_at s hk)).1
  have cp := hF.raw.pcC hk
  have cm := hF.raw.miC hk
  have zp := hF.raw.pcZ k
  have zm := hF.raw.miZ k
  have i0 : (0 : Int) ≤ (k : Int) := by omega
  have i1 : (k : Int) < s.n := by omega
  have i2 : ¬ (k : Int) < 0 := by omega
  have i3 : ¬ (s.n : Int) ≤ (k : Int) := by omega
  have bsz : M.base ≤ ((w.alloc (.cells #[.int .i64 0, .int .i64 0, .int .i64 0, .int .i64 0] 111)).alloc (.cells #[.int .i64 0, .int .i64 0, .int .i64 0, .int .i64 0] 111)).drew.heap.size := Nat.le_trans hF.bw (((Wrote.refl Nil w).alloc _).alloc _).drew.size
  have a0 := h.ha.1
  have a1 := h.ha.2
  have hwa : IntKind.i64.wrap (M.a + 1) = M.a + 1 := by rw [IntKind.wrap_i64]; omega
  have cA := ra_load (hR.after ((Wrote.refl Nil _).drew) fun _ _ => id) u (M.a + 1) h.hD h.hws h.hac bsz
  have HEE := Lib.hid (end_some (s := s) (ev := 1) (y := 2) hk (by rw [s1]; rfl))
  have HGV : Hid (∀ W, SrAt W M.sr M.hv M.dv s.n s.n (stL (s.set k 2 0)) (dlL (s.set k 2 0)) s.timed s.probed → W.cell? ⟨g, k, none⟩ = some (.int .i64 2)) := Lib.hid fun W hW => SrAt.at_g hW hgv (by omega) (by rw [stL_at _ (show k < (s.set k 2 0).n from hk)]; show some (upd s.st k 2 k) = _; rw [upd_same])
  have bq : (tellS ps u 1 (M.a + 1) == mi k) = true := by simpa using he
  have he2 := Lib.hid he
  clear he
  rw [s1] at ct
  rw [hp] at cp
  have HE := Lib.hid (And.intro h (And.intro hF hk))
  have HG := Lib.hid hgv
  obtain ⟨Z, hZ⟩ : ∃ Z, Z = (w.alloc (.cells #[.int .i64 0, .int .i64 0, .int .i64 0, .int .i64 0] 111)).alloc (.cells #[.int .i64 0, .int .i64 0, .int .i64 0, .int .i64 0] 111) := ⟨_, rfl⟩
  have HZ := Lib.hid hZ
  rw [← hZ] at HE cA
  clear hZ
  clear hF hR h hg hgv s1
  go_enter Try.func97, Try.ntmps97
  go_wp2
  rw [← HZ.out]
  rw [← HZ.out] at c1 c3 cm
  clear c0 c2 cs ct cp zm zp
  go_region_held3 (fun w' => w'.cell? ⟨M.r, 1, none⟩ = some (.int .i64 M.a) ∧ w'.cell? ⟨M.r, 3, none⟩ = some (.slice (some ⟨M.mn, 0, none⟩) s.n s.n) ∧ w'.cell? ⟨M.mn, k, none⟩ = some (.int .u32 (mi k))) (first | exact ⟨c1, c3, cm⟩ | exact ⟨d1, d3, y0⟩) (first | (go_at_call 99; (with_reducible refine cA.mono ?_); intro e w2 hq; unfold RaPost at hq; obtain ⟨rfl, hRS, hW⟩ := hq; have hA := HE.out.2.1.drew.port hRS hW; have d1 := hA.raw.cell1; have d3 := hA.raw.cell3; have y0 := hA.raw.miC HE.out.2.2; have k0 := hA.dcell.1; have kz := blk_frozen hA.did 0; have HC := Lib.hid hA; clear hA hRS hW))
  go_wp2
  obtain ⟨X, hX⟩ : ∃ X, X = w2.setCell ⟨w.heap.size + 1, 0, none⟩ (.int .i64 1) := ⟨_, rfl⟩
  have hFX : Fm w X M bk dv s p mi (doS ps u 1 (M.a + 1) 0 0) w.heap.size (w.heap.size + 1) ⟨1, false, false, false⟩ := by rw [hX]; exact HC.out.setD 0 (.int .i64 1) ⟨1, false, false, false⟩ rfl
  rw [← hX]
  clear hX
  have n0 := hFX.drew.raw.cell0
  have nd0 := hFX.drew.dcell.1
  have ns := SrAt.cell0 hFX.drew.raw.seat
  rw [HG.out] at ns
  have cE := rs_end hFX.drew.raw.seat n1 n2 (k : Int) 1
  rw [HEE.out.1, HEE.out.2] at cE
  have HX := Lib.hid hFX
  clear hFX
  refine wp_region_noPanic ?_
  refine wp_region_held_drew (S := fun W => W.cell? ⟨M.r, 0, none⟩ = some (.pointer (some ⟨M.sr, 0, none⟩)) ∧ W.cell? ⟨w.heap.size + 1, 0, none⟩ = some (.int .i64 1) ∧ W.cell? ⟨M.sr, 0, none⟩ = some (.slice (some ⟨g, 0, none⟩) s.n cg)) (by kernel_rfl) ⟨n0, nd0, ns⟩ (fun hHeld => ?_)
  refine wpAnyH_take (i := 0) (v := ?v1) rfl (by kernel_rfl) (by kernel_rfl) (by kernel_rfl) (fun _ _ _ h => h) (Or.inl ⟨by rfl, ?hy1⟩) (by assumption) ?rest1
  case hy1 => intro w hSw; (try dsimp only at hSw); go_simp; try with_reducible rfl
  (try simp only [Act.put, List.getElem_toArray, List.getElem_cons_zero, List.setIfInBounds_toArray, List.set_cons_zero, List.set_cons_succ])
  refine wpAnyH_take (i := 1) (v := ?v2) rfl (by kernel_rfl) (by kernel_rfl) (by kernel_rfl) (fun _ _ _ h => h) (Or.inl ⟨by rfl, ?hy2⟩) (by assumption) ?rest2
  case hy2 => intro w hSw; (try dsimp only at hSw); go_simp; try with_reducible rfl
  (try simp only [Act.put, List.getElem_toArray, List.getElem_cons_succ, List.getElem_cons_zero, List.setIfInBounds_toArray, List.set_cons_zero, List.set_cons_succ])
  refine wpAnyH_take (i := 2) (v := ?v3) rfl (by kernel_rfl) (by kernel_rfl) (by kernel_rfl) (fun _ _ _ h => h) (Or.inl ⟨by rfl, ?hy3⟩) (by assumption) ?rest3
  case hy3 => intro w hSw; (try dsimp only at hSw); go_simp; try with_reducible rfl
  (try simp only [Act.put, List.getElem_toArray, List.getElem_cons_succ, List.getElem_cons_zero, List.setIfInBounds_toArray, List.set_cons_zero, List.set_cons_succ])
  refine wpAnyH_take (i := 3) (v := ?v4) rfl (by kernel_rfl) (by kernel_rfl) (by kernel_rfl) (fun _ _ _ h => h) (Or.inl ⟨by rfl, ?hy4⟩) (by assumption) ?rest4
  case hy4 => intro w hSw; (try dsimp only at hSw); go_simp; try with_reducible rfl
  (try simp only [Act.put, List.getElem_toArray, List.getElem_cons_succ, List.getElem_cons_zero, List.setIfInBounds_toArray, List.set_cons_zero, List.set_cons_succ])
  refine wpAnyH_take (i := 4) (v := ?v5) rfl (by kernel_rfl) (by kernel_rfl) (by kernel_rfl) (fun _ _ _ h => h) (Or.inl ⟨by rfl, ?hy5⟩) (by assumption) ?rest5
  case hy5 => intro w hSw; (try dsimp only at hSw); go_simp; try with_reducible rfl
  (try simp only [Act.put, List.getElem_toArray, List.getElem_cons_succ, List.getElem_cons_zero, List.setIfInBounds_toArray, List.set_cons_zero, List.set_cons_succ])
  refine wpAnyH_take (i := 5) (v := ?v6) rfl (by kernel_rfl) (by kernel_rfl) (by kernel_rfl) (fun _ _ _ h => h) (Or.inl ⟨by rfl, ?hy6⟩) (by assumption) ?rest6
  case hy6 => intro w hSw; (try dsimp only at hSw); go_simp; try with_reducible rfl
  (try simp only [Act.put, List.getElem_toArray, List.getElem_cons_succ, List.getElem_cons_zero, List.setIfInBounds_toArray, List.set_cons_zero, List.set_cons_succ])
  refine wpAnyH_take (i := 6) (v := ?v7) rfl (by kernel_rfl) (by kernel_rfl) (by kernel_rfl) (fun _ _ _ h => h) (Or.inl ⟨by rfl, ?hy7⟩) (by assumption) ?rest7
  case hy7 => intro w hSw; (try dsimp only at hSw); go_simp; try with_reducible rfl
  (try simp only [Act.put, List.getElem_toArray, List.getElem_cons_succ, List.getElem_cons_zero, List.setIfInBounds_toArray, List.set_cons_zero, List.set_cons_succ])
  refine wpAnyH_ready (rs := [7]) (by kernel_rfl) (by simp) ?_
  refine AllReadyH.cons rfl (fun K hK => ?_) AllReadyH.nil
  go_simp
  go_at_call 101
  with_reducible refine cE.mono ?_
  intro e w4 hq
  have hF4 := HX.out.drew.ends (s' := s.set k 2 0) rfl hq
  unfold RsPost at hq
  obtain ⟨rfl, _, _⟩ := hq
  obtain ⟨p0, p1, p2, p3⟩ := hF4.dcell
  obtain ⟨v0, v1, v2, v3⟩ := hF4.rcell
  obtain ⟨x0, x1, x2, x3⟩ := hF4.rfrz
  have m0 := hF4.raw.cell0
  have ms := SrAt.cell0 hF4.raw.seat
  rw [HG.out] at ms
  have m2 : w4.cell? ⟨M.r, 2, none⟩ = some (.slice (some ⟨M.pc, 0, none⟩) s.n s.n) := hF4.raw.cell2
  have mp := hF4.raw.pcC HE.out.2.2
  have mz := hF4.raw.pcZ k
  have mt := HGV.out _ hF4.raw.seat
  
  have HT := Lib.hid hF4
  clear hF4
  go_wp2
  refine hK.out _ _ (⟨m0, p0, ms⟩) (fun hHeld2 => ?_)
  clear hHeld K hK
  have hHeld := hHeld2
  clear hHeld2
  (try simp only [Act.put, List.getElem_toArray, List.getElem_cons_succ, List.getElem_cons_zero, List.setIfInBounds_toArray, List.set_cons_zero, List.set_cons_succ])
  refine wpAnyH_take (i := 8) (v := ?v8) rfl (by kernel_rfl) (by kernel_rfl) (by kernel_rfl) (fun _ _ _ h => h) (Or.inl ⟨by rfl, ?hy8⟩) (by assumption) ?rest8
  case hy8 => intro w hSw; (try dsimp only at hSw); go_simp; try with_reducible rfl
  (try simp only [Act.put, List.getElem_toArray, List.getElem_cons_succ, List.getElem_cons_zero, List.setIfInBounds_toArray, List.set_cons_zero, List.set_cons_succ])
  refine wpAnyH_take (i := 9) (v := ?v9) rfl (by kernel_rfl) (by kernel_rfl) (by kernel_rfl) (fun _ _ _ h => h) (Or.inl ⟨by rfl, ?hy9⟩) (by assumption) ?rest9
  case hy9 => intro w hSw; (try dsimp only at hSw); go_simp; try with_reducible rfl
  (try simp only [Act.put, List.getElem_toArray, List.getElem_cons_succ, List.getElem_cons_zero, List.setIfInBounds_toArray, List.set_cons_zero, List.set_cons_succ])
  refine wpAnyH_take (i := 10) (v := ?v10) rfl (by kernel_rfl) (by kernel_rfl) (by kernel_rfl) (fun _ _ _ h => h) (Or.inl ⟨by rfl, ?hy10⟩) (by assumption) ?rest10
  case hy10 => intro w hSw; (try dsimp only at hSw); go_simp; try with_reducible rfl
  (try simp only [Act.put, List.getElem_toArray, List.getElem_cons_succ, List.getElem_cons_zero, List.setIfInBounds_toArray, List.set_cons_zero, List.set_cons_succ])
  refine wpAnyH_take (i := 11) (v := ?v11) rfl (by kernel_rfl) (by kernel_rfl) (by kernel_rfl) (fun _ _ _ h => h) (Or.inl ⟨by rfl, ?hy11⟩) (by assumption) ?rest11
  case hy11 => intro w hSw; (try dsimp only at hSw); go_simp; try with_reducible rfl
  (try simp only [Act.put, List.getElem_toArray, List.getElem_cons_succ, List.getElem_cons_zero, List.setIfInBounds_toArray, List.set_cons_zero, List.set_cons_succ])
  refine wpAnyH_take (i := 12) (v := ?v12) rfl (by kernel_rfl) (by kernel_rfl) (by kernel_rfl) (fun _ _ _ h => h) (Or.inl ⟨by rfl, ?hy12⟩) (by assumption) ?rest12
  case hy12 => intro w hSw; (try dsimp only at hSw); go_simp; try with_reducible rfl
  (try simp only [Act.put, List.getElem_toArray, List.getElem_cons_succ, List.getElem_cons_zero, List.setIfInBounds_toArray, List.set_cons_zero, List.set_cons_succ])
  refine wpAnyH_take (i := 13) (v := ?v13) rfl (by kernel_rfl) (by kernel_rfl) (by kernel_rfl) (fun _ _ _ h => h) (Or.inl ⟨by rfl, ?hy13⟩) (by assumption) ?rest13
  case hy13 => intro w hSw; (try dsimp only at hSw); go_simp; try with_reducible rfl
  (try simp only [Act.put, List.getElem_toArray, List.getElem_cons_succ, List.getElem_cons_zero, List.setIfInBounds_toArray, List.set_cons_zero, List.set_cons_succ])
  refine wpAnyH_take (i := 14) (v := ?v14) rfl (by kernel_rfl) (by kernel_rfl) (by kernel_rfl) (fun _ _ _ h => h) (Or.inl ⟨by rfl, ?hy14⟩) (by assumption) ?rest14
  case hy14 => intro w hSw; (try dsimp only at hSw); go_simp; try with_reducible rfl
  (try simp only [Act.put, List.getElem_toArray, List.getElem_cons_succ, List.getElem_cons_zero, List.setIfInBounds_toArray, List.set_cons_zero, List.set_cons_succ])
  refine wpAnyH_take (i := 15) (v := ?v15) rfl (by kernel_rfl) (by kernel_rfl) (by kernel_rfl) (fun _ _ _ h => h) (Or.inl ⟨by rfl, ?hy15⟩) (by assumption) ?rest15
  case hy15 => intro w hSw; (try dsimp only at hSw); go_simp; try with_reducible rfl
  (try simp only [Act.put, List.getElem_toArray, List.getElem_cons_succ, List.getElem_cons_zero, List.setIfInBounds_toArray, List.set_cons_zero, List.set_cons_succ])
  refine wpAnyH_take (i := 16) (v := ?v16) rfl (by kernel_rfl) (by kernel_rfl) (by kernel_rfl) (fun _ _ _ h => h) (Or.inl ⟨by rfl, ?hy16⟩) (by assumption) ?rest16
  case hy16 => intro w hSw; (try dsimp only at hSw); go_simp; try with_reducible rfl
  (try simp only [Act.put, List.getElem_toArray, List.getElem_cons_succ, List.getElem_cons_zero, List.setIfInBounds_toArray, List.set_cons_zero, List.set_cons_succ])
  refine wpAnyH_take (i := 17) (v := ?v17) rfl (by kernel_rfl) (by kernel_rfl) (by kernel_rfl) (fun _ _ _ h => h) (Or.inl ⟨by rfl, ?hy17⟩) (by assumption) ?rest17
  case hy17 => intro w hSw; (try dsimp only at hSw); go_simp; try with_reducible rfl
  (try simp only [Act.put, List.getElem_toArray, List.getElem_cons_succ, List.getElem_cons_zero, List.setIfInBounds_toArray, List.set_cons_zero, List.set_cons_succ])
  refine wpAnyH_take (i := 18) (v := ?v18) rfl (by kernel_rfl) (by kernel_rfl) (by kernel_rfl) (fun _ _ _ h => h) (Or.inl ⟨by rfl, ?hy18⟩) (by assumption) ?rest18
  case hy18 => intro w hSw; (try dsimp only at hSw); go_simp; try with_reducible rfl
  (try simp only [Act.put, List.getElem_toArray, List.getElem_cons_succ, List.getElem_cons_zero, List.setIfInBounds_toArray, List.set_cons_zero, List.set_cons_succ])
  refine wpAnyH_ready (rs := [19]) (by kernel_rfl) (by simp) ?_
  refine AllReadyH.cons rfl (fun K hK => ?_) AllReadyH.nil
  go_simp
  refine hK.out _ _ (⟨m0, p0, ms⟩) (fun hHeld2 => ?_)
  clear hHeld K hK
  have hHeld := hHeld2
  clear hHeld2
  (try simp only [Act.put, List.getElem_toArray, List.getElem_cons_succ, List.getElem_cons_zero, List.setIfInBounds_toArray, List.set_cons_zero, List.set_cons_succ])
  refine wpAnyH_take (i := 20) (v := ?v19) rfl (by kernel_rfl) (by kernel_rfl) (by kernel_rfl) (fun _ _ _ h => h) (Or.inl ⟨by rfl, ?hy19⟩) (by assumption) ?rest19
  case hy19 => intro w hSw; (try dsimp only at hSw); go_simp; try with_reducible rfl
  (try simp only [Act.put, List.getElem_toArray, List.getElem_cons_succ, List.getElem_cons_zero, List.setIfInBounds_toArray, List.set_cons_zero, List.set_cons_succ])
  refine wpAnyH_take (i := 21) (v := ?v20) rfl (by kernel_rfl) (by kernel_rfl) (by kernel_rfl) (fun _ _ _ h => h) (Or.inl ⟨by rfl, ?hy20⟩) (by assumption) ?rest20
  case hy20 => intro w hSw; (try dsimp only at hSw); go_simp; try with_reducible rfl
  (try simp only [Act.put, List.getElem_toArray, List.getElem_cons_succ, List.getElem_cons_zero, List.setIfInBounds_toArray, List.set_cons_zero, List.set_cons_succ])
  refine wpAnyH_done (by kernel_rfl) ?_ _
  refine NoPanic.normal ?_
  go_wp2
  refine bodyPost_ret (v := Dd.rval ⟨1, false, false, false⟩) (results_cell_row rfl _ _ w.heap.size 111 _ (0, 0) _ rfl (set4 HT.out.res rfl _ _ _ _) Try.underlying111 rfl i_rid) rfl HT.out.told

set_option maxHeartbeats 4000000 in
theorem ml_wait {w : World} {M : Mp} {bk : Nat} {so : Option Addr} {cap : Nat} {dv : Value} {s : SS} {p : Nat → Bool} {mi : Nat → Int} {ps : PSta} (h : MsIn w M bk so cap dv s p mi ps) (k : Nat) (hk : k < s.n) (u x : Int) (s1 : s.st k = 1) (hp : p k = true) (he : tellS ps u 1 (M.a + 1) ≠ mi k) :
    Calls Try.prog 97 #[.pointer (some ⟨M.r, 0, none⟩), .pointer (some ⟨M.pr, 0, none⟩), .int .i64 (k : Int), .int .i64 u, .int .i64 x] w (MsPost w M bk dv s p mi (doS ps u 1 (M.a + 1) 0 0) Dd.no) := by
  obtain ⟨hF, hR⟩ := h.start
  have n1 := h.n1
  have n2 := h.n2
  obtain ⟨g, cg, hgv, hg⟩ := SrAt.stV hF.raw.seat (by omega)
  have b2 := (h.raw.after ((Wrote.refl Nil w).alloc (.cells #[.int .i64 0, .int .i64 0, .int .i64 0, .int .i64 0] 111))).cell2
  have c0 := hF.raw.cell0
  have c1 := hF.raw.cell1
  have c2 := hF.raw.cell2
  have c3 := hF.raw.cell3
  have cs := SrAt.cell0 hF.raw.seat
  rw [hgv] at cs
  have ct := (hg k _ (stL_at s hk)).1
  have cp := hF.raw.pcC hk
  have cm := hF.raw.miC hk
  have zp := hF.raw.pcZ k
  have zm := hF.raw.miZ k
  have i0 : (0 : Int) ≤ (k : Int) := by omega
  have i1 : (k : Int) < s.n := by omega
  have i2 : ¬ (k : Int) < 0 := by omega
  have i3 : ¬ (s.n : Int) ≤ (k : Int) := by omega
  have bsz : M.base ≤ ((w.alloc (.cells #[.int .i64 0, .int .i64 0, .int .i64 0, .int .i64 0] 111)).alloc (.cells #[.int .i64 0, .int .i64 0, .int .i64 0, .int .i64 0] 111)).drew.heap.size := Nat.le_trans hF.bw (((Wrote.refl Nil w).alloc _).alloc _).drew.size
  have a0 := h.ha.1
  have a1 := h.ha.2
  have hwa : IntKind.i64.wrap (M.a + 1) = M.a + 1 := by rw [IntKind.wrap_i64]; omega
  have cA := ra_load (hR.after ((Wrote.refl Nil _).drew) fun _ _ => id) u (M.a + 1) h.hD h.hws h.hac bsz
  have HEE := Lib.hid (end_none (s := s) (ev := 0) hk (by rw [s1]; rfl))
  have bq : (tellS ps u 1 (M.a + 1) == mi k) = false := beq_false_of_ne he
  have he2 := Lib.hid he
  clear he
  rw [s1] at ct
  rw [hp] at cp
  have HE := Lib.hid (And.intro h (And.intro hF hk))
  have HG := Lib.hid hgv
  obtain ⟨Z, hZ⟩ : ∃ Z, Z = (w.alloc (.cells #[.int .i64 0, .int .i64 0, .int .i64 0, .int .i64 0] 111)).alloc (.cells #[.int .i64 0, .int .i64 0, .int .i64 0, .int .i64 0] 111) := ⟨_, rfl⟩
  have HZ := Lib.hid hZ
  rw [← hZ] at HE cA
  clear hZ
  clear hF hR h hg hgv s1
  go_enter Try.func97, Try.ntmps97
  go_wp2
  rw [← HZ.out]
  rw [← HZ.out] at c1 c3 cm
  clear c0 c2 cs ct cp zm zp
  go_region_held3 (fun w' => w'.cell? ⟨M.r, 1, none⟩ = some (.int .i64 M.a) ∧ w'.cell? ⟨M.r, 3, none⟩ = some (.slice (some ⟨M.mn, 0, none⟩) s.n s.n) ∧ w'.cell? ⟨M.mn, k, none⟩ = some (.int .u32 (mi k))) (first | exact ⟨c1, c3, cm⟩ | exact ⟨d1, d3, y0⟩) (first | (go_at_call 99; (with_reducible refine cA.mono ?_); intro e w2 hq; unfold RaPost at hq; obtain ⟨rfl, hRS, hW⟩ := hq; have hA := HE.out.2.1.drew.port hRS hW; have d1 := hA.raw.cell1; have d3 := hA.raw.cell3; have y0 := hA.raw.miC HE.out.2.2; have k0 := hA.dcell.1; have kz := blk_frozen hA.did 0; have HC := Lib.hid hA; clear hA hRS hW))
  go_wp2
  obtain ⟨X, hX⟩ : ∃ X, X = w2 := ⟨_, rfl⟩
  have hFX : Fm w X M bk dv s p mi (doS ps u 1 (M.a + 1) 0 0) w.heap.size (w.heap.size + 1) Dd.no := by rw [hX]; exact HC.out
  rw [← hX]
  clear hX
  have n0 := hFX.drew.raw.cell0
  have nd0 := hFX.drew.dcell.1
  have ns := SrAt.cell0 hFX.drew.raw.seat
  rw [HG.out] at ns
  have cE := rs_end hFX.drew.raw.seat n1 n2 (k : Int) 0
  rw [HEE.out.1, HEE.out.2] at cE
  have HX := Lib.hid hFX
  clear hFX
  refine wp_region_noPanic ?_
  refine wp_region_held_drew (S := fun W => W.cell? ⟨M.r, 0, none⟩ = some (.pointer (some ⟨M.sr, 0, none⟩)) ∧ W.cell? ⟨w.heap.size + 1, 0, none⟩ = some (.int .i64 0) ∧ W.cell? ⟨M.sr, 0, none⟩ = some (.slice (some ⟨g, 0, none⟩) s.n cg)) (by kernel_rfl) ⟨n0, nd0, ns⟩ (fun hHeld => ?_)
  refine wpAnyH_take (i := 0) (v := ?v1) rfl (by kernel_rfl) (by kernel_rfl) (by kernel_rfl) (fun _ _ _ h => h) (Or.inl ⟨by rfl, ?hy1⟩) (by assumption) ?rest1
  case hy1 => intro w hSw; (try dsimp only at hSw); go_simp; try with_reducible rfl
  (try simp only [Act.put, List.getElem_toArray, List.getElem_cons_zero, List.setIfInBounds_toArray, List.set_cons_zero, List.set_cons_succ])
  refine wpAnyH_take (i := 1) (v := ?v2) rfl (by kernel_rfl) (by kernel_rfl) (by kernel_rfl) (fun _ _ _ h => h) (Or.inl ⟨by rfl, ?hy2⟩) (by assumption) ?rest2
  case hy2 => intro w hSw; (try dsimp only at hSw); go_simp; try with_reducible rfl
  (try simp only [Act.put, List.getElem_toArray, List.getElem_cons_succ, List.getElem_cons_zero, List.setIfInBounds_toArray, List.set_cons_zero, List.set_cons_succ])
  refine wpAnyH_take (i := 2) (v := ?v3) rfl (by kernel_rfl) (by kernel_rfl) (by kernel_rfl) (fun _ _ _ h => h) (Or.inl ⟨by rfl, ?hy3⟩) (by assumption) ?rest3
  case hy3 => intro w hSw; (try dsimp only at hSw); go_simp; try with_reducible rfl
  (try simp only [Act.put, List.getElem_toArray, List.getElem_cons_succ, List.getElem_cons_zero, List.setIfInBounds_toArray, List.set_cons_zero, List.set_cons_succ])
  refine wpAnyH_take (i := 3) (v := ?v4) rfl (by kernel_rfl) (by kernel_rfl) (by kernel_rfl) (fun _ _ _ h => h) (Or.inl ⟨by rfl, ?hy4⟩) (by assumption) ?rest4
  case hy4 => intro w hSw; (try dsimp only at hSw); go_simp; try with_reducible rfl
  (try simp only [Act.put, List.getElem_toArray, List.getElem_cons_succ, List.getElem_cons_zero, List.setIfInBounds_toArray, List.set_cons_zero, List.set_cons_succ])
  refine wpAnyH_take (i := 4) (v := ?v5) rfl (by kernel_rfl) (by kernel_rfl) (by kernel_rfl) (fun _ _ _ h => h) (Or.inl ⟨by rfl, ?hy5⟩) (by assumption) ?rest5
  case hy5 => intro w hSw; (try dsimp only at hSw); go_simp; try with_reducible rfl
  (try simp only [Act.put, List.getElem_toArray, List.getElem_cons_succ, List.getElem_cons_zero, List.setIfInBounds_toArray, List.set_cons_zero, List.set_cons_succ])
  refine wpAnyH_take (i := 5) (v := ?v6) rfl (by kernel_rfl) (by kernel_rfl) (by kernel_rfl) (fun _ _ _ h => h) (Or.inl ⟨by rfl, ?hy6⟩) (by assumption) ?rest6
  case hy6 => intro w hSw; (try dsimp only at hSw); go_simp; try with_reducible rfl
  (try simp only [Act.put, List.getElem_toArray, List.getElem_cons_succ, List.getElem_cons_zero, List.setIfInBounds_toArray, List.set_cons_zero, List.set_cons_succ])
  refine wpAnyH_take (i := 6) (v := ?v7) rfl (by kernel_rfl) (by kernel_rfl) (by kernel_rfl) (fun _ _ _ h => h) (Or.inl ⟨by rfl, ?hy7⟩) (by assumption) ?rest7
  case hy7 => intro w hSw; (try dsimp only at hSw); go_simp; try with_reducible rfl
  (try simp only [Act.put, List.getElem_toArray, List.getElem_cons_succ, List.getElem_cons_zero, List.setIfInBounds_toArray, List.set_cons_zero, List.set_cons_succ])
  refine wpAnyH_ready (rs := [7]) (by kernel_rfl) (by simp) ?_
  refine AllReadyH.cons rfl (fun K hK => ?_) AllReadyH.nil
  go_simp
  go_at_call 101
  with_reducible refine cE.mono ?_
  intro e w4 hq
  have hF4 := HX.out.drew.ends (s' := s) rfl hq
  unfold RsPost at hq
  obtain ⟨rfl, _, _⟩ := hq
  obtain ⟨p0, p1, p2, p3⟩ := hF4.dcell
  obtain ⟨v0, v1, v2, v3⟩ := hF4.rcell
  obtain ⟨x0, x1, x2, x3⟩ := hF4.rfrz
  have m0 := hF4.raw.cell0
  have ms := SrAt.cell0 hF4.raw.seat
  rw [HG.out] at ms
  have HT := Lib.hid hF4
  clear hF4
  go_wp2
  refine hK.out _ _ (⟨m0, p0, ms⟩) (fun hHeld2 => ?_)
  clear hHeld K hK
  have hHeld := hHeld2
  clear hHeld2
  (try simp only [Act.put, List.getElem_toArray, List.getElem_cons_succ, List.getElem_cons_zero, List.setIfInBounds_toArray, List.set_cons_zero, List.set_cons_succ])
  refine wpAnyH_take (i := 8) (v := ?v8) rfl (by kernel_rfl) (by kernel_rfl) (by kernel_rfl) (fun _ _ _ h => h) (Or.inl ⟨by rfl, ?hy8⟩) (by assumption) ?rest8
  case hy8 => intro w hSw; (try dsimp only at hSw); go_simp; try with_reducible rfl
  (try simp only [Act.put, List.getElem_toArray, List.getElem_cons_succ, List.getElem_cons_zero, List.setIfInBounds_toArray, List.set_cons_zero, List.set_cons_succ])
  refine wpAnyH_take (i := 9) (v := ?v9) rfl (by kernel_rfl) (by kernel_rfl) (by kernel_rfl) (fun _ _ _ h => h) (Or.inl ⟨by rfl, ?hy9⟩) (by assumption) ?rest9
  case hy9 => intro w hSw; (try dsimp only at hSw); go_simp; try with_reducible rfl
  (try simp only [Act.put, List.getElem_toArray, List.getElem_cons_succ, List.getElem_cons_zero, List.setIfInBounds_toArray, List.set_cons_zero, List.set_cons_succ])
  refine wpAnyH_take (i := 10) (v := undef) rfl (by kernel_rfl) (by kernel_rfl) (by kernel_rfl) (fun _ _ _ h => h) (Or.inr ⟨by rfl, rfl⟩) (by assumption) ?rest10
  (try simp only [Act.put, List.getElem_toArray, List.getElem_cons_succ, List.getElem_cons_zero, List.setIfInBounds_toArray, List.set_cons_zero, List.set_cons_succ])
  refine wpAnyH_take (i := 11) (v := undef) rfl (by kernel_rfl) (by kernel_rfl) (by kernel_rfl) (fun _ _ _ h => h) (Or.inr ⟨by rfl, rfl⟩) (by assumption) ?rest11
  (try simp only [Act.put, List.getElem_toArray, List.getElem_cons_succ, List.getElem_cons_zero, List.setIfInBounds_toArray, List.set_cons_zero, List.set_cons_succ])
  refine wpAnyH_take (i := 12) (v := undef) rfl (by kernel_rfl) (by kernel_rfl) (by kernel_rfl) (fun _ _ _ h => h) (Or.inr ⟨by rfl, rfl⟩) (by assumption) ?rest12
  (try simp only [Act.put, List.getElem_toArray, List.getElem_cons_succ, List.getElem_cons_zero, List.setIfInBounds_toArray, List.set_cons_zero, List.set_cons_succ])
  refine wpAnyH_take (i := 13) (v := undef) rfl (by kernel_rfl) (by kernel_rfl) (by kernel_rfl) (fun _ _ _ h => h) (Or.inr ⟨by rfl, rfl⟩) (by assumption) ?rest13
  (try simp only [Act.put, List.getElem_toArray, List.getElem_cons_succ, List.getElem_cons_zero, List.setIfInBounds_toArray, List.set_cons_zero, List.set_cons_succ])
  refine wpAnyH_take (i := 14) (v := undef) rfl (by kernel_rfl) (by kernel_rfl) (by kernel_rfl) (fun _ _ _ h => h) (Or.inr ⟨by rfl, rfl⟩) (by assumption) ?rest14
  (try simp only [Act.put, List.getElem_toArray, List.getElem_cons_succ, List.getElem_cons_zero, List.setIfInBounds_toArray, List.set_cons_zero, List.set_cons_succ])
  refine wpAnyH_take (i := 15) (v := undef) rfl (by kernel_rfl) (by kernel_rfl) (by kernel_rfl) (fun _ _ _ h => h) (Or.inr ⟨by rfl, rfl⟩) (by assumption) ?rest15
  (try simp only [Act.put, List.getElem_toArray, List.getElem_cons_succ, List.getElem_cons_zero, List.setIfInBounds_toArray, List.set_cons_zero, List.set_cons_succ])
  refine wpAnyH_take (i := 16) (v := undef) rfl (by kernel_rfl) (by kernel_rfl) (by kernel_rfl) (fun _ _ _ h => h) (Or.inr ⟨by rfl, rfl⟩) (by assumption) ?rest16
  (try simp only [Act.put, List.getElem_toArray, List.getElem_cons_succ, List.getElem_cons_zero, List.setIfInBounds_toArray, List.set_cons_zero, List.set_cons_succ])
  refine wpAnyH_take (i := 17) (v := undef) rfl (by kernel_rfl) (by kernel_rfl) (by kernel_rfl) (fun _ _ _ h => h) (Or.inr ⟨by rfl, rfl⟩) (by assumption) ?rest17
  (try simp only [Act.put, List.getElem_toArray, List.getElem_cons_succ, List.getElem_cons_zero, List.setIfInBounds_toArray, List.set_cons_zero, List.set_cons_succ])
  refine wpAnyH_take (i := 18) (v := undef) rfl (by kernel_rfl) (by kernel_rfl) (by kernel_rfl) (fun _ _ _ h => h) (Or.inr ⟨by rfl, rfl⟩) (by assumption) ?rest18
  (try simp only [Act.put, List.getElem_toArray, List.getElem_cons_succ, List.getElem_cons_zero, List.setIfInBounds_toArray, List.set_cons_zero, List.set_cons_succ])
  refine wpAnyH_take (i := 19) (v := undef) rfl (by kernel_rfl) (by kernel_rfl) (by kernel_rfl) (fun _ _ _ h => h) (Or.inr ⟨by rfl, rfl⟩) (by assumption) ?rest19
  (try simp only [Act.put, List.getElem_toArray, List.getElem_cons_succ, List.getElem_cons_zero, List.setIfInBounds_toArray, List.set_cons_zero, List.set_cons_succ])
  refine wpAnyH_take (i := 20) (v := undef) rfl (by kernel_rfl) (by kernel_rfl) (by kernel_rfl) (fun _ _ _ h => h) (Or.inr ⟨by rfl, rfl⟩) (by assumption) ?rest20
  (try simp only [Act.put, List.getElem_toArray, List.getElem_cons_succ, List.getElem_cons_zero, List.setIfInBounds_toArray, List.set_cons_zero, List.set_cons_succ])
  refine wpAnyH_take (i := 21) (v := ?v21) rfl (by kernel_rfl) (by kernel_rfl) (by kernel_rfl) (fun _ _ _ h => h) (Or.inl ⟨by rfl, ?hy21⟩) (by assumption) ?rest21
  case hy21 => intro w hSw; (try dsimp only at hSw); go_simp; try with_reducible rfl
  (try simp only [Act.put, List.getElem_toArray, List.getElem_cons_succ, List.getElem_cons_zero, List.setIfInBounds_toArray, List.set_cons_zero, List.set_cons_succ])
  refine wpAnyH_done (by kernel_rfl) ?_ _
  refine NoPanic.normal ?_
  go_wp2
  refine bodyPost_ret (v := Dd.rval Dd.no) (results_cell_row rfl _ _ w.heap.size 111 _ (0, 0) _ rfl (set4 HT.out.res rfl _ _ _ _) Try.underlying111 rfl i_rid) rfl HT.out.told

set_option maxHeartbeats 4000000 in
theorem ml_free {w : World} {M : Mp} {bk : Nat} {so : Option Addr} {cap : Nat} {dv : Value} {s : SS} {p : Nat → Bool} {mi : Nat → Int} {ps : PSta} (h : MsIn w M bk so cap dv s p mi ps) (k : Nat) (hk : k < s.n) (u x : Int) (s3 : s.st k = 3) (hm : ∀ j, 0 ≤ mi j ∧ mi j < 4294967296) :
    Calls Try.prog 97 #[.pointer (some ⟨M.r, 0, none⟩), .pointer (some ⟨M.pr, 0, none⟩), .int .i64 (k : Int), .int .i64 u, .int .i64 x] w (MsPost w M bk dv (s.set k 0 0) (upd p k false) mi (doS ps u 2 (M.a + 1) 0 ((mi k + 1) % 4294967296)) ⟨3, false, false, false⟩) := by
  obtain ⟨hF, hR⟩ := h.start
  have n1 := h.n1
  have n2 := h.n2
  obtain ⟨g, cg, hgv, hg⟩ := SrAt.stV hF.raw.seat (by omega)
  have b2 := (h.raw.after ((Wrote.refl Nil w).alloc (.cells #[.int .i64 0, .int .i64 0, .int .i64 0, .int .i64 0] 111))).cell2
  have c0 := hF.raw.cell0
  have c1 := hF.raw.cell1
  have c2 := hF.raw.cell2
  have c3 := hF.raw.cell3
  have cs := SrAt.cell0 hF.raw.seat
  rw [hgv] at cs
  have ct := (hg k _ (stL_at s hk)).1
  have cp := hF.raw.pcC hk
  have cm := hF.raw.miC hk
  have zp := hF.raw.pcZ k
  have zm := hF.raw.miZ k
  have i0 : (0 : Int) ≤ (k : Int) := by omega
  have i1 : (k : Int) < s.n := by omega
  have i2 : ¬ (k : Int) < 0 := by omega
  have i3 : ¬ (s.n : Int) ≤ (k : Int) := by omega
  have bsz : M.base ≤ ((w.alloc (.cells #[.int .i64 0, .int .i64 0, .int .i64 0, .int .i64 0] 111)).alloc (.cells #[.int .i64 0, .int .i64 0, .int .i64 0, .int .i64 0] 111)).drew.heap.size := Nat.le_trans hF.bw (((Wrote.refl Nil w).alloc _).alloc _).drew.size
  have a0 := h.ha.1
  have a1 := h.ha.2
  have hwa : IntKind.i64.wrap (M.a + 1) = M.a + 1 := by rw [IntKind.wrap_i64]; omega
  obtain ⟨m, hmm⟩ : ∃ m, m = (mi k + 1) % 4294967296 := ⟨_, rfl⟩
  have ew : IntKind.u32.wrap (mi k + 1) = m := by rw [hmm]; rfl
  have hm1 : 0 ≤ m ∧ m < 4294967296 := by omega
  rw [← hmm]
  have cA := ra_store (hR.after ((Wrote.refl Nil _).drew) fun _ _ => id) u (M.a + 1) m hm1.1 hm1.2 h.hD h.hws h.hac bsz
  have HEE := Lib.hid (end_some (s := s) (ev := 3) (y := 0) hk (by rw [s3]; rfl))
  have HGV : Hid (∀ W, SrAt W M.sr M.hv M.dv s.n s.n (stL (s.set k 0 0)) (dlL (s.set k 0 0)) s.timed s.probed → W.cell? ⟨g, k, none⟩ = some (.int .i64 0)) := Lib.hid fun W hW => SrAt.at_g hW hgv (by omega) (by rw [stL_at _ (show k < (s.set k 0 0).n from hk)]; show some (upd s.st k 0 k) = _; rw [upd_same])
  rw [s3] at ct
  have HE := Lib.hid (And.intro h (And.intro hF hk))
  have HG := Lib.hid hgv
  obtain ⟨Z, hZ⟩ : ∃ Z, Z = (w.alloc (.cells #[.int .i64 0, .int .i64 0, .int .i64 0, .int .i64 0] 111)).alloc (.cells #[.int .i64 0, .int .i64 0, .int .i64 0, .int .i64 0] 111) := ⟨_, rfl⟩
  have HZ := Lib.hid hZ
  rw [← hZ] at HE cA
  clear hZ
  clear hF hR h hg hgv s3 hmm hm1 hm
  go_enter Try.func97, Try.ntmps97
  go_wp2
  rw [← HZ.out]
  rw [← HZ.out] at c1 c3 cm
  clear c0 c2 cs ct cp zm zp
  go_region_held3 (fun w' => w'.cell? ⟨M.r, 1, none⟩ = some (.int .i64 M.a) ∧ w'.cell? ⟨M.r, 3, none⟩ = some (.slice (some ⟨M.mn, 0, none⟩) s.n s.n) ∧ w'.cell? ⟨M.mn, k, none⟩ = some (.int .u32 (mi k))) (first | exact ⟨c1, c3, cm⟩ | exact ⟨d1, d3, y0⟩) (first | (go_at_call 100; (with_reducible refine cA.mono ?_); intro e w2 hq; unfold RaPost at hq; obtain ⟨rfl, hRS, hW⟩ := hq; have hA := HE.out.2.1.drew.port hRS hW; have d1 := hA.raw.cell1; have d3 := hA.raw.cell3; have y0 := hA.raw.miC HE.out.2.2; have k0 := hA.dcell.1; have kz := blk_frozen hA.did 0; have HC := Lib.hid hA; clear hA hRS hW))
  go_wp2
  obtain ⟨X, hX⟩ : ∃ X, X = w2.setCell ⟨w.heap.size + 1, 0, none⟩ (.int .i64 3) := ⟨_, rfl⟩
  have hFX : Fm w X M bk dv s p mi (doS ps u 2 (M.a + 1) 0 m) w.heap.size (w.heap.size + 1) ⟨3, false, false, false⟩ := by rw [hX]; exact HC.out.setD 0 (.int .i64 3) ⟨3, false, false, false⟩ rfl
  rw [← hX]
  clear hX
  have n0 := hFX.drew.raw.cell0
  have nd0 := hFX.drew.dcell.1
  have ns := SrAt.cell0 hFX.drew.raw.seat
  rw [HG.out] at ns
  have cE := rs_end hFX.drew.raw.seat n1 n2 (k : Int) 3
  rw [HEE.out.1, HEE.out.2] at cE
  have HX := Lib.hid hFX
  clear hFX
  refine wp_region_noPanic ?_
  refine wp_region_held_drew (S := fun W => W.cell? ⟨M.r, 0, none⟩ = some (.pointer (some ⟨M.sr, 0, none⟩)) ∧ W.cell? ⟨w.heap.size + 1, 0, none⟩ = some (.int .i64 3) ∧ W.cell? ⟨M.sr, 0, none⟩ = some (.slice (some ⟨g, 0, none⟩) s.n cg)) (by kernel_rfl) ⟨n0, nd0, ns⟩ (fun hHeld => ?_)
  refine wpAnyH_take (i := 0) (v := ?v1) rfl (by kernel_rfl) (by kernel_rfl) (by kernel_rfl) (fun _ _ _ h => h) (Or.inl ⟨by rfl, ?hy1⟩) (by assumption) ?rest1
  case hy1 => intro w hSw; (try dsimp only at hSw); go_simp; try with_reducible rfl
  (try simp only [Act.put, List.getElem_toArray, List.getElem_cons_zero, List.setIfInBounds_toArray, List.set_cons_zero, List.set_cons_succ])
  refine wpAnyH_take (i := 1) (v := ?v2) rfl (by kernel_rfl) (by kernel_rfl) (by kernel_rfl) (fun _ _ _ h => h) (Or.inl ⟨by rfl, ?hy2⟩) (by assumption) ?rest2
  case hy2 => intro w hSw; (try dsimp only at hSw); go_simp; try with_reducible rfl
  (try simp only [Act.put, List.getElem_toArray, List.getElem_cons_succ, List.getElem_cons_zero, List.setIfInBounds_toArray, List.set_cons_zero, List.set_cons_succ])
  refine wpAnyH_take (i := 2) (v := ?v3) rfl (by kernel_rfl) (by kernel_rfl) (by kernel_rfl) (fun _ _ _ h => h) (Or.inl ⟨by rfl, ?hy3⟩) (by assumption) ?rest3
  case hy3 => intro w hSw; (try dsimp only at hSw); go_simp; try with_reducible rfl
  (try simp only [Act.put, List.getElem_toArray, List.getElem_cons_succ, List.getElem_cons_zero, List.setIfInBounds_toArray, List.set_cons_zero, List.set_cons_succ])
  refine wpAnyH_take (i := 3) (v := ?v4) rfl (by kernel_rfl) (by kernel_rfl) (by kernel_rfl) (fun _ _ _ h => h) (Or.inl ⟨by rfl, ?hy4⟩) (by assumption) ?rest4
  case hy4 => intro w hSw; (try dsimp only at hSw); go_simp; try with_reducible rfl
  (try simp only [Act.put, List.getElem_toArray, List.getElem_cons_succ, List.getElem_cons_zero, List.setIfInBounds_toArray, List.set_cons_zero, List.set_cons_succ])
  refine wpAnyH_take (i := 4) (v := ?v5) rfl (by kernel_rfl) (by kernel_rfl) (by kernel_rfl) (fun _ _ _ h => h) (Or.inl ⟨by rfl, ?hy5⟩) (by assumption) ?rest5
  case hy5 => intro w hSw; (try dsimp only at hSw); go_simp; try with_reducible rfl
  (try simp only [Act.put, List.getElem_toArray, List.getElem_cons_succ, List.getElem_cons_zero, List.setIfInBounds_toArray, List.set_cons_zero, List.set_cons_succ])
  refine wpAnyH_take (i := 5) (v := ?v6) rfl (by kernel_rfl) (by kernel_rfl) (by kernel_rfl) (fun _ _ _ h => h) (Or.inl ⟨by rfl, ?hy6⟩) (by assumption) ?rest6
  case hy6 => intro w hSw; (try dsimp only at hSw); go_simp; try with_reducible rfl
  (try simp only [Act.put, List.getElem_toArray, List.getElem_cons_succ, List.getElem_cons_zero, List.setIfInBounds_toArray, List.set_cons_zero, List.set_cons_succ])
  refine wpAnyH_take (i := 6) (v := ?v7) rfl (by kernel_rfl) (by kernel_rfl) (by kernel_rfl) (fun _ _ _ h => h) (Or.inl ⟨by rfl, ?hy7⟩) (by assumption) ?rest7
  case hy7 => intro w hSw; (try dsimp only at hSw); go_simp; try with_reducible rfl
  (try simp only [Act.put, List.getElem_toArray, List.getElem_cons_succ, List.getElem_cons_zero, List.setIfInBounds_toArray, List.set_cons_zero, List.set_cons_succ])
  refine wpAnyH_ready (rs := [7]) (by kernel_rfl) (by simp) ?_
  refine AllReadyH.cons rfl (fun K hK => ?_) AllReadyH.nil
  go_simp
  go_at_call 101
  with_reducible refine cE.mono ?_
  intro e w4 hq
  have hF4 := HX.out.drew.ends (s' := s.set k 0 0) rfl hq
  unfold RsPost at hq
  obtain ⟨rfl, _, _⟩ := hq
  obtain ⟨p0, p1, p2, p3⟩ := hF4.dcell
  obtain ⟨v0, v1, v2, v3⟩ := hF4.rcell
  obtain ⟨x0, x1, x2, x3⟩ := hF4.rfrz
  have m0 := hF4.raw.cell0
  have ms := SrAt.cell0 hF4.raw.seat
  rw [HG.out] at ms
  have m2 : w4.cell? ⟨M.r, 2, none⟩ = some (.slice (some ⟨M.pc, 0, none⟩) s.n s.n) := hF4.raw.cell2
  have mp := hF4.raw.pcC HE.out.2.2
  have mz := hF4.raw.pcZ k
  have mt := HGV.out _ hF4.raw.seat
  have hF5 : Fm w (w4.setCell ⟨M.pc, k, none⟩ (.int .i64 0)) M bk dv (s.set k 0 0) (upd p k false) mi (doS ps u 2 (M.a + 1) 0 m) w.heap.size (w.heap.size + 1) ⟨3, false, false, false⟩ := hF4.setP k false
  obtain ⟨pp0, pp1, pp2, pp3⟩ := hF5.dcell
  obtain ⟨vv0, vv1, vv2, vv3⟩ := hF5.rcell
  obtain ⟨xx0, xx1, xx2, xx3⟩ := hF5.rfrz
  have HT5 := Lib.hid hF5
  clear hF5
  have HT := Lib.hid hF4
  clear hF4
  go_wp2
  refine hK.out _ _ (⟨m0, p0, ms⟩) (fun hHeld2 => ?_)
  clear hHeld K hK
  have hHeld := hHeld2
  clear hHeld2
  (try simp only [Act.put, List.getElem_toArray, List.getElem_cons_succ, List.getElem_cons_zero, List.setIfInBounds_toArray, List.set_cons_zero, List.set_cons_succ])
  refine wpAnyH_take (i := 8) (v := ?v8) rfl (by kernel_rfl) (by kernel_rfl) (by kernel_rfl) (fun _ _ _ h => h) (Or.inl ⟨by rfl, ?hy8⟩) (by assumption) ?rest8
  case hy8 => intro w hSw; (try dsimp only at hSw); go_simp; try with_reducible rfl
  (try simp only [Act.put, List.getElem_toArray, List.getElem_cons_succ, List.getElem_cons_zero, List.setIfInBounds_toArray, List.set_cons_zero, List.set_cons_succ])
  refine wpAnyH_take (i := 9) (v := ?v9) rfl (by kernel_rfl) (by kernel_rfl) (by kernel_rfl) (fun _ _ _ h => h) (Or.inl ⟨by rfl, ?hy9⟩) (by assumption) ?rest9
  case hy9 => intro w hSw; (try dsimp only at hSw); go_simp; try with_reducible rfl
  (try simp only [Act.put, List.getElem_toArray, List.getElem_cons_succ, List.getElem_cons_zero, List.setIfInBounds_toArray, List.set_cons_zero, List.set_cons_succ])
  refine wpAnyH_take (i := 10) (v := ?v10) rfl (by kernel_rfl) (by kernel_rfl) (by kernel_rfl) (fun _ _ _ h => h) (Or.inl ⟨by rfl, ?hy10⟩) (by assumption) ?rest10
  case hy10 => intro w hSw; (try dsimp only at hSw); go_simp; try with_reducible rfl
  (try simp only [Act.put, List.getElem_toArray, List.getElem_cons_succ, List.getElem_cons_zero, List.setIfInBounds_toArray, List.set_cons_zero, List.set_cons_succ])
  refine wpAnyH_take (i := 11) (v := ?v11) rfl (by kernel_rfl) (by kernel_rfl) (by kernel_rfl) (fun _ _ _ h => h) (Or.inl ⟨by rfl, ?hy11⟩) (by assumption) ?rest11
  case hy11 => intro w hSw; (try dsimp only at hSw); go_simp; try with_reducible rfl
  (try simp only [Act.put, List.getElem_toArray, List.getElem_cons_succ, List.getElem_cons_zero, List.setIfInBounds_toArray, List.set_cons_zero, List.set_cons_succ])
  refine wpAnyH_take (i := 12) (v := ?v12) rfl (by kernel_rfl) (by kernel_rfl) (by kernel_rfl) (fun _ _ _ h => h) (Or.inl ⟨by rfl, ?hy12⟩) (by assumption) ?rest12
  case hy12 => intro w hSw; (try dsimp only at hSw); go_simp; try with_reducible rfl
  (try simp only [Act.put, List.getElem_toArray, List.getElem_cons_succ, List.getElem_cons_zero, List.setIfInBounds_toArray, List.set_cons_zero, List.set_cons_succ])
  refine wpAnyH_take (i := 13) (v := ?v13) rfl (by kernel_rfl) (by kernel_rfl) (by kernel_rfl) (fun _ _ _ h => h) (Or.inl ⟨by rfl, ?hy13⟩) (by assumption) ?rest13
  case hy13 => intro w hSw; (try dsimp only at hSw); go_simp; try with_reducible rfl
  (try simp only [Act.put, List.getElem_toArray, List.getElem_cons_succ, List.getElem_cons_zero, List.setIfInBounds_toArray, List.set_cons_zero, List.set_cons_succ])
  refine wpAnyH_take (i := 14) (v := ?v14) rfl (by kernel_rfl) (by kernel_rfl) (by kernel_rfl) (fun _ _ _ h => h) (Or.inl ⟨by rfl, ?hy14⟩) (by assumption) ?rest14
  case hy14 => intro w hSw; (try dsimp only at hSw); go_simp; try with_reducible rfl
  (try simp only [Act.put, List.getElem_toArray, List.getElem_cons_succ, List.getElem_cons_zero, List.setIfInBounds_toArray, List.set_cons_zero, List.set_cons_succ])
  refine wpAnyH_take (i := 15) (v := ?v15) rfl (by kernel_rfl) (by kernel_rfl) (by kernel_rfl) (fun _ _ _ h => h) (Or.inl ⟨by rfl, ?hy15⟩) (by assumption) ?rest15
  case hy15 => intro w hSw; (try dsimp only at hSw); go_simp; try with_reducible rfl
  (try simp only [Act.put, List.getElem_toArray, List.getElem_cons_succ, List.getElem_cons_zero, List.setIfInBounds_toArray, List.set_cons_zero, List.set_cons_succ])
  refine wpAnyH_take (i := 16) (v := ?v16) rfl (by kernel_rfl) (by kernel_rfl) (by kernel_rfl) (fun _ _ _ h => h) (Or.inl ⟨by rfl, ?hy16⟩) (by assumption) ?rest16
  case hy16 => intro w hSw; (try dsimp only at hSw); go_simp; try with_reducible rfl
  (try simp only [Act.put, List.getElem_toArray, List.getElem_cons_succ, List.getElem_cons_zero, List.setIfInBounds_toArray, List.set_cons_zero, List.set_cons_succ])
  refine wpAnyH_take (i := 17) (v := ?v17) rfl (by kernel_rfl) (by kernel_rfl) (by kernel_rfl) (fun _ _ _ h => h) (Or.inl ⟨by rfl, ?hy17⟩) (by assumption) ?rest17
  case hy17 => intro w hSw; (try dsimp only at hSw); go_simp; try with_reducible rfl
  (try simp only [Act.put, List.getElem_toArray, List.getElem_cons_succ, List.getElem_cons_zero, List.setIfInBounds_toArray, List.set_cons_zero, List.set_cons_succ])
  refine wpAnyH_take (i := 18) (v := ?v18) rfl (by kernel_rfl) (by kernel_rfl) (by kernel_rfl) (fun _ _ _ h => h) (Or.inl ⟨by rfl, ?hy18⟩) (by assumption) ?rest18
  case hy18 => intro w hSw; (try dsimp only at hSw); go_simp; try with_reducible rfl
  (try simp only [Act.put, List.getElem_toArray, List.getElem_cons_succ, List.getElem_cons_zero, List.setIfInBounds_toArray, List.set_cons_zero, List.set_cons_succ])
  refine wpAnyH_ready (rs := [19]) (by kernel_rfl) (by simp) ?_
  refine AllReadyH.cons rfl (fun K hK => ?_) AllReadyH.nil
  go_simp
  refine hK.out _ _ (⟨m0, p0, ms⟩) (fun hHeld2 => ?_)
  clear hHeld K hK
  have hHeld := hHeld2
  clear hHeld2
  (try simp only [Act.put, List.getElem_toArray, List.getElem_cons_succ, List.getElem_cons_zero, List.setIfInBounds_toArray, List.set_cons_zero, List.set_cons_succ])
  refine wpAnyH_take (i := 20) (v := ?v19) rfl (by kernel_rfl) (by kernel_rfl) (by kernel_rfl) (fun _ _ _ h => h) (Or.inl ⟨by rfl, ?hy19⟩) (by assumption) ?rest19
  case hy19 => intro w hSw; (try dsimp only at hSw); go_simp; try with_reducible rfl
  (try simp only [Act.put, List.getElem_toArray, List.getElem_cons_succ, List.getElem_cons_zero, List.setIfInBounds_toArray, List.set_cons_zero, List.set_cons_succ])
  refine wpAnyH_take (i := 21) (v := ?v20) rfl (by kernel_rfl) (by kernel_rfl) (by kernel_rfl) (fun _ _ _ h => h) (Or.inl ⟨by rfl, ?hy20⟩) (by assumption) ?rest20
  case hy20 => intro w hSw; (try dsimp only at hSw); go_simp; try with_reducible rfl
  (try simp only [Act.put, List.getElem_toArray, List.getElem_cons_succ, List.getElem_cons_zero, List.setIfInBounds_toArray, List.set_cons_zero, List.set_cons_succ])
  refine wpAnyH_done (by kernel_rfl) ?_ _
  refine NoPanic.normal ?_
  go_wp2
  refine bodyPost_ret (v := Dd.rval ⟨3, false, false, false⟩) (results_cell_row rfl _ _ w.heap.size 111 _ (0, 0) _ rfl (set4 HT5.out.res rfl _ _ _ _) Try.underlying111 rfl i_rid) rfl HT5.out.told

end Go.Proofs.Ytojjmpoielhhhaa
