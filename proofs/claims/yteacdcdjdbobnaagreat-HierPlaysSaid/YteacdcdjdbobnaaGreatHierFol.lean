/- What a hierarchical lock's call goes by as it looks at the node ahead in its cluster. -/
import Derived.Test.YteacdcdjdbobnaaGreatHierDo
import Derived.WalkLawsBesides
import Derived.Outline
import Derived.Deep.QuietTactic
import Derived.Deep.RegionHeld3
import Derived.BigQuiet
import Derived.BigFrame
import Derived.Handy
import Derived.OpenShut
import Derived.Lib.Walk
import Derived.WalkKit
import Derived.Lib.Hide
import Derived.StillTailTactics
namespace Go.Proofs.YteacdcdjdbobnaaGreat
open Go.RowKit Go.BigFrame
set_option linter.unusedVariables false
set_option maxRecDepth 100000

theorem pk_cl (v : Int) (h : 0 ≤ v ∧ v < 4294967296) (W : World) : Calls Tryz.prog 71 #[.int .u32 v] W fun e w' => e = .returned (.int .i64 (wCl v)) ∧ w' = W := (cluster_any v h.1 h.2 W).mono fun _ _ q => ⟨q.1, q.2.symm⟩
theorem pk_sp (v : Int) (h : 0 ≤ v ∧ v < 4294967296) (b : Bool) (hb : b = decide (wSp v = 1)) (W : World) : Calls Tryz.prog 72 #[.int .u32 v] W fun e w' => e = .returned (.bool b) ∧ w' = W := (spliced_any v h.1 h.2 W).mono fun _ _ q => ⟨by rw [hb]; exact q.1, q.2.symm⟩
theorem pk_wt (v : Int) (h : 0 ≤ v ∧ v < 4294967296) (b : Bool) (hb : b = decide (wWt v = 1)) (W : World) : Calls Tryz.prog 54 #[.int .u32 v] W fun e w' => e = .returned (.bool b) ∧ w' = W := (waits_any v h.1 h.2 W).mono fun _ _ q => ⟨by rw [hb]; exact q.1, q.2.symm⟩
set_option maxHeartbeats 1000000 in
theorem fl_fol1 {w : World} {L : Lp} {f : FL} {σ : Nat → Int} (h : LkM w L f σ) (k : Nat) (hk : k < f.s.n) (hs : σ k = 1) (hpc : f.pc k = 2) (v : Int) (hv : 0 ≤ v ∧ v < 4294967296) (hx : wCl v ≠ f.cl k) :
    Calls Tryz.prog 52 #[.pointer (some ⟨L.tb, k * 6, none⟩), .int .u32 v] w (LmPost w L (f.put k ⟨f.cl k, 3, f.nd k, f.ahd k, f.of k, f.wv k⟩) (upd σ k 1) (Dd.val ⟨0, false, false, false⟩)) := by
  have hF := Fr.start h
  obtain ⟨Z, hZ⟩ : ∃ Z, Z = w.alloc (.cells #[.int .i64 0, .bool false, .bool false, .bool false] 54) := ⟨_, rfl⟩
  rw [← hZ] at hF
  obtain ⟨p, hp, t0, t1, t2, t3, t4, t5⟩ := hF.lk.place6 hk
  have cC := pk_cl v hv
  have b0 : (wCl v != f.cl k) = true := by simpa [bne, BEq.beq] using hx
  have cS := pk_sp v hv _ rfl
  clear hx
  have HE := Lib.hid (And.intro h (And.intro hF (And.intro hs hpc)))
  clear h hF hp hs hpc
  go_enter Tryz.func52, Tryz.ntmps52
  go_wp2
  rw [← hZ]
  clear hZ
  go_big_quiet (first | (go_at_call 71; with_reducible exact Calls.quiet_of_same (cC _)) | (go_at_call 72; with_reducible exact Calls.quiet_of_same (cS _)))
  generalize hX : Z.drewN _ = X
  have hY := HE.out.2.1.after (by rw [← hX]; exact (Wrote.refl Nil Z).drewN _ : Wrote Nil Z X)
  clear hX t0 t1 t2 t3 t4 t5
  obtain ⟨p, hp, t0, t1, t2, t3, t4, t5⟩ := hY.lk.place6 hk
  have z3 := hY.lk.raw.tkz (k * 6 + 3)
  have hT := hY.lk.turns (hY.lk.raw.set1 k 1 ⟨f.cl k, 3, f.nd k, f.ahd k, f.of k, f.wv k⟩ 3 (fun q hq => by rw [HE.out.2.2.1] at hq; exact hq.next (q := 3) (by decide) (fun _ => (by have : (f.ab k).pc = 2 := HE.out.2.2.2; omega)) (fun x => by omega) (by decide)))
  have hA := Fr.call HE.out.1 hY hT.1 (lf_t hT.2)
  obtain ⟨v0, v1, v2, v3⟩ := hA.cell
  obtain ⟨x0, x1, x2, x3⟩ := hA.frz
  have HA := Lib.hid hA
  clear hA hT hY hp
  go_wp2
  refine bodyPost_ret (v := Dd.val ⟨0, false, false, false⟩) (results_cell_row rfl _ _ w.heap.size 54 _ (0, 0) _ rfl (set4 HA.out.res rfl _ _ _ _) Tryz.underlying54 rfl i_did) rfl (HA.out.told HE.out.1 ⟨0, false, false, false⟩)
set_option maxHeartbeats 1000000 in
theorem fl_fol2 {w : World} {L : Lp} {f : FL} {σ : Nat → Int} (h : LkM w L f σ) (k : Nat) (hk : k < f.s.n) (hs : σ k = 1) (hpc : f.pc k = 2) (v : Int) (hv : 0 ≤ v ∧ v < 4294967296) (hx : wCl v = f.cl k) (hy : wSp v ≠ 0) :
    Calls Tryz.prog 52 #[.pointer (some ⟨L.tb, k * 6, none⟩), .int .u32 v] w (LmPost w L (f.put k ⟨f.cl k, 3, f.nd k, f.ahd k, f.of k, f.wv k⟩) (upd σ k 1) (Dd.val ⟨0, false, false, false⟩)) := by
  have hF := Fr.start h
  obtain ⟨Z, hZ⟩ : ∃ Z, Z = w.alloc (.cells #[.int .i64 0, .bool false, .bool false, .bool false] 54) := ⟨_, rfl⟩
  rw [← hZ] at hF
  obtain ⟨p, hp, t0, t1, t2, t3, t4, t5⟩ := hF.lk.place6 hk
  have cC := pk_cl v hv
  have b0 : (wCl v != f.cl k) = false := by rw [hx]; simp
  have cS := pk_sp v hv true (by symm; apply decide_eq_true; unfold wSp at hy ⊢; omega)
  clear hx hy
  have HE := Lib.hid (And.intro h (And.intro hF (And.intro hs hpc)))
  clear h hF hp hs hpc
  go_enter Tryz.func52, Tryz.ntmps52
  go_wp2
  rw [← hZ]
  clear hZ
  go_big_quiet (first | (go_at_call 71; with_reducible exact Calls.quiet_of_same (cC _)) | (go_at_call 72; with_reducible exact Calls.quiet_of_same (cS _)))
  generalize hX : Z.drewN _ = X
  have hY := HE.out.2.1.after (by rw [← hX]; exact (Wrote.refl Nil Z).drewN _ : Wrote Nil Z X)
  clear hX t0 t1 t2 t3 t4 t5
  obtain ⟨p, hp, t0, t1, t2, t3, t4, t5⟩ := hY.lk.place6 hk
  have z3 := hY.lk.raw.tkz (k * 6 + 3)
  have hT := hY.lk.turns (hY.lk.raw.set1 k 1 ⟨f.cl k, 3, f.nd k, f.ahd k, f.of k, f.wv k⟩ 3 (fun q hq => by rw [HE.out.2.2.1] at hq; exact hq.next (q := 3) (by decide) (fun _ => (by have : (f.ab k).pc = 2 := HE.out.2.2.2; omega)) (fun x => by omega) (by decide)))
  have hA := Fr.call HE.out.1 hY hT.1 (lf_t hT.2)
  obtain ⟨v0, v1, v2, v3⟩ := hA.cell
  obtain ⟨x0, x1, x2, x3⟩ := hA.frz
  have HA := Lib.hid hA
  clear hA hT hY hp
  go_wp2
  refine bodyPost_ret (v := Dd.val ⟨0, false, false, false⟩) (results_cell_row rfl _ _ w.heap.size 54 _ (0, 0) _ rfl (set4 HA.out.res rfl _ _ _ _) Tryz.underlying54 rfl i_did) rfl (HA.out.told HE.out.1 ⟨0, false, false, false⟩)
set_option maxHeartbeats 1000000 in
theorem fl_fol3 {w : World} {L : Lp} {f : FL} {σ : Nat → Int} (h : LkM w L f σ) (k : Nat) (hk : k < f.s.n) (hs : σ k = 1) (hpc : f.pc k = 2) (v : Int) (hv : 0 ≤ v ∧ v < 4294967296) (hx : wCl v = f.cl k) (hy : wSp v = 0) (hz : wWt v ≠ 0) :
    Calls Tryz.prog 52 #[.pointer (some ⟨L.tb, k * 6, none⟩), .int .u32 v] w (LmPost w L (f.put k ⟨f.cl k, 2, f.nd k, f.ahd k, f.of k, f.wv k⟩) (upd σ k 1) (Dd.val ⟨0, false, false, false⟩)) := by
  have hF := Fr.start h
  obtain ⟨Z, hZ⟩ : ∃ Z, Z = w.alloc (.cells #[.int .i64 0, .bool false, .bool false, .bool false] 54) := ⟨_, rfl⟩
  rw [← hZ] at hF
  obtain ⟨p, hp, t0, t1, t2, t3, t4, t5⟩ := hF.lk.place6 hk
  have cC := pk_cl v hv
  have b0 : (wCl v != f.cl k) = false := by rw [hx]; simp
  have cS := pk_sp v hv false (by rw [hy]; rfl)
  have cW := pk_wt v hv true (by symm; apply decide_eq_true; unfold wWt at hz ⊢; omega)
  clear hx hy hz
  have HE := Lib.hid (And.intro h (And.intro hF (And.intro hs hpc)))
  clear h hF hp hs hpc
  go_enter Tryz.func52, Tryz.ntmps52
  go_wp2
  rw [← hZ]
  clear hZ
  go_big_quiet (first | (go_at_call 71; with_reducible exact Calls.quiet_of_same (cC _)) | (go_at_call 72; with_reducible exact Calls.quiet_of_same (cS _)))
  generalize hX : Z.drewN _ = X
  have hY := HE.out.2.1.after (by rw [← hX]; exact (Wrote.refl Nil Z).drewN _ : Wrote Nil Z X)
  clear hX t0 t1 t2 t3 t4 t5
  have hT := hY.lk.turn0 (hY.lk.raw.set0 k 1 ⟨f.cl k, 2, f.nd k, f.ahd k, f.of k, f.wv k⟩ (fun q hq => by rw [HE.out.2.2.1] at hq; rw [show f.ab k = ⟨f.cl k, 2, f.nd k, f.ahd k, f.of k, f.wv k⟩ from by unfold FL.ab; rw [HE.out.2.2.2]] at hq; exact hq))
  have hA := Fr.call HE.out.1 hY hT (lf_nil (Wrote.refl _ _))
  obtain ⟨v0, v1, v2, v3⟩ := hA.cell
  obtain ⟨x0, x1, x2, x3⟩ := hA.frz
  have HA := Lib.hid hA
  clear hA hT hY
  go_wp2_with (go_at_call 54; with_reducible refine (cW _).mono ?_; rintro e w' ⟨rfl, rfl⟩)
  refine bodyPost_ret (v := Dd.val ⟨0, false, false, false⟩) (results_cell_row rfl _ _ w.heap.size 54 _ (0, 0) _ rfl (set4 HA.out.res rfl _ _ _ _) Tryz.underlying54 rfl i_did) rfl (HA.out.told HE.out.1 ⟨0, false, false, false⟩)
set_option maxHeartbeats 1000000 in
theorem fl_fol4 {w : World} {L : Lp} {f : FL} {σ : Nat → Int} (h : LkM w L f σ) (k : Nat) (hk : k < f.s.n) (hs : σ k = 1) (hpc : f.pc k = 2) (v : Int) (hv : 0 ≤ v ∧ v < 4294967296) (hx : wCl v = f.cl k) (hy : wSp v = 0) (hz : wWt v = 0) :
    Calls Tryz.prog 52 #[.pointer (some ⟨L.tb, k * 6, none⟩), .int .u32 v] w (LmPost w L (f.put k ⟨f.cl k, 0, f.nd k, f.ahd k, f.of k, f.wv k⟩) (upd σ k 2) (Dd.val ⟨1, false, false, false⟩)) := by
  have hF := Fr.start h
  obtain ⟨Z, hZ⟩ : ∃ Z, Z = w.alloc (.cells #[.int .i64 0, .bool false, .bool false, .bool false] 54) := ⟨_, rfl⟩
  rw [← hZ] at hF
  obtain ⟨p, hp, t0, t1, t2, t3, t4, t5⟩ := hF.lk.place6 hk
  have cC := pk_cl v hv
  have b0 : (wCl v != f.cl k) = false := by rw [hx]; simp
  have cS := pk_sp v hv false (by rw [hy]; rfl)
  have cW := pk_wt v hv false (by rw [hz]; rfl)
  clear hx hy hz
  have HE := Lib.hid (And.intro h (And.intro hF (And.intro hs hpc)))
  clear h hF hp hs hpc
  go_enter Tryz.func52, Tryz.ntmps52
  go_wp2
  rw [← hZ]
  clear hZ
  go_big_quiet (first | (go_at_call 71; with_reducible exact Calls.quiet_of_same (cC _)) | (go_at_call 72; with_reducible exact Calls.quiet_of_same (cS _)))
  generalize hX : Z.drewN _ = X
  have hY := HE.out.2.1.after (by rw [← hX]; exact (Wrote.refl Nil Z).drewN _ : Wrote Nil Z X)
  clear hX t0 t1 t2 t3 t4 t5
  have cH := fl_has hY.lk k hk HE.out.2.2.1 (by have := HE.out.2.2.2; omega) ⟨1, false, false, false⟩
  dsimp only [Dd.val] at cH
  have HY := Lib.hid hY
  clear hY
  go_wp2_with (first
    | (go_at_call 54; with_reducible refine (cW _).mono ?_; rintro e w' ⟨rfl, rfl⟩)
    | (go_at_call 55; (with_reducible refine cH.mono ?_); intro e w3 hq; unfold LmPost at hq; obtain ⟨rfl, hB, hW2⟩ := hq; have hB3 := Fr.call HE.out.1 HY.out hB hW2; obtain ⟨v0, v1, v2, v3⟩ := hB3.cell; obtain ⟨x0, x1, x2, x3⟩ := hB3.frz; have HT := Lib.hid hB3; clear hB hB3 hW2))
  refine bodyPost_ret (v := Dd.val ⟨1, false, false, false⟩) (results_cell_row rfl _ _ w.heap.size 54 _ (0, 0) _ rfl (set4 HT.out.res rfl _ _ _ _) Tryz.underlying54 rfl i_did) rfl (HT.out.told HE.out.1 ⟨1, false, false, false⟩)
/-- what it goes by -/
theorem fl_follow {w : World} {L : Lp} {f : FL} {σ : Nat → Int} (h : LkM w L f σ) (k : Nat) (hk : k < f.s.n) (hs : σ k = 1) (hpc : f.pc k = 2) (v : Int) (hv : 0 ≤ v ∧ v < 4294967296) :
    Calls Tryz.prog 52 #[.pointer (some ⟨L.tb, k * 6, none⟩), .int .u32 v] w (LmPost w L (f.put k ⟨f.cl k, if wCl v = f.cl k ∧ wSp v = 0 then (if wWt v = 0 then 0 else 2) else 3, f.nd k, f.ahd k, f.of k, f.wv k⟩)
      (upd σ k (finS 1 (if (wCl v = f.cl k ∧ wSp v = 0) ∧ wWt v = 0 then (⟨1, false, false, false⟩ : Dd) else Dd.no).ev)) (Dd.val (if (wCl v = f.cl k ∧ wSp v = 0) ∧ wWt v = 0 then ⟨1, false, false, false⟩ else Dd.no))) := by
  by_cases hx : wCl v = f.cl k
  · by_cases hy : wSp v = 0
    · by_cases hz : wWt v = 0
      · rw [if_pos ⟨hx, hy⟩, if_pos hz, if_pos ⟨⟨hx, hy⟩, hz⟩]; exact fl_fol4 h k hk hs hpc v hv hx hy hz
      · rw [if_pos ⟨hx, hy⟩, if_neg hz, if_neg (fun q => hz q.2)]; exact fl_fol3 h k hk hs hpc v hv hx hy hz
    · rw [if_neg (fun q => hy q.2), if_neg (fun q => hy q.1.2)]; exact fl_fol2 h k hk hs hpc v hv hx hy
  · rw [if_neg (fun q => hx q.1), if_neg (fun q => hx q.1.1)]; exact fl_fol1 h k hk hs hpc v hv hx
end Go.Proofs.YteacdcdjdbobnaaGreat
