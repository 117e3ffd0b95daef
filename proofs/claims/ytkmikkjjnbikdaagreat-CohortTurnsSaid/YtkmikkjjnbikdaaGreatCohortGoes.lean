/- The contract of a lock of locks' goOn, whatever comes next. -/
import Derived.Test.YtkmikkjjnbikdaaGreatCohortGo
namespace Go.Proofs.YtkmikkjjnbikdaaGreat
open Go.RowKit Go.BigFrame
set_option linter.unusedVariables false
set_option maxRecDepth 100000
set_option maxHeartbeats 4000000

section
variable {w : World} {L : Lp} {f : FL} {ga : Nat} {la : Nat → Nat} {H : Nat → Option Nat} {V : Nat → List Nat} {gg : Option Nat} {Wg : List Nat} {k : Nat}
/-- what comes behind a step, out of what the context does then -/
theorem nx_is {f : FL} {k : Nat} {x p l : Int} (hx : f.s.st k = x) (hp : f.ph k = p) (hl : (f.Lc (f.nd k)).s.st (f.own k) = l) {F : Nat} (e : nxN x p l = F) : nxF f k = .func (.func F) #[] #[] := by
  unfold nxF
  rw [hx, hp, hl, e]
theorem up2 {nx : Nat → Value} {a b : Value} : ∀ t, t ≠ k → upd (upd nx k a) k b t = nx t := fun t ht => by rw [upd_other _ _ ht, upd_other _ _ ht]
theorem up1 {nx : Nat → Value} {a : Value} : ∀ t, t ≠ k → upd nx k a t = nx t := fun t ht => upd_other _ _ ht
/-- the first step of a call for the lock, and all till its node's lock is granted -/
theorem ask_is (hJ : OrdJ f ga la H V gg Wg) (hk : k < f.s.n) (s1 : f.s.st k = 1) (p0 : f.ph k = 0) : ((f.Lc (f.nd k)).s.st (f.own k) = 0 ∨ (f.Lc (f.nd k)).s.st (f.own k) = 1) ∧ (f.ask k).s.st (f.own k) = 1 ∧ (((f.ask k).did (f.la (f.nd k) : Nat) (f.own k : Nat) (k : Nat)).ev = 0 ∨ ((f.ask k).did (f.la (f.nd k) : Nat) (f.own k : Nat) (k : Nat)).ev = 1) := by
  have ho := hJ.own k hk
  have hl : (f.Lc (f.nd k)).s.st (f.own k) = 0 ∨ (f.Lc (f.nd k)).s.st (f.own k) = 1 := by
    have hx := hJ.cor.cx k hk
    cases hx with
    | loc hx hp hl => exact hl
    | _ => omega
  have ya : (f.ask k).s.st (f.own k) = 1 ∧ (f.ask k).s.n = (f.Lc (f.nd k)).s.n := by
    unfold FL.ask
    rcases hl with e | e
    · rw [if_pos e, Inn.lock_s, lk_s, lock_st ho e, upd_same]
      exact ⟨rfl, SS.lock_n _ _ _⟩
    · rw [if_neg (by omega), lk_s]
      exact ⟨e, rfl⟩
  exact ⟨hl, ya.1, ((Inn.did_at (x := f.ask k) (k := f.own k) (u := k) (f.la (f.nd k) : Nat) (by rw [ya.2]; exact ho)).1 ya.1).1⟩
theorem p0_step (hJ : OrdJ f ga la H V gg Wg) (hk : k < f.s.n) (s1 : f.s.st k = 1) (p0 : f.ph k = 0) : nxF (f.step L k k) k = (if ((f.ask k).did (f.la (f.nd k) : Nat) (f.own k : Nat) (k : Nat)).ev = 1 then (.func (.func 88) #[] #[]) else (.func (.func 86) #[] #[]) : Value) := by
  obtain ⟨hl, ya, hd⟩ := ask_is hJ hk s1 p0
  obtain ⟨ed, em⟩ := OrdJ.at_one (L := L) (u := (k : Int)) hk s1
  have ed2 : (f.did L k k).ev = 0 := by rw [ed]; unfold FL.acqD; rw [if_pos p0]
  have em2 : f.mid L k k = { f with Lc := upd f.Lc (f.nd k) ((f.ask k).step (f.la (f.nd k) : Nat) (f.own k : Nat) (k : Nat)), ph := upd f.ph k ((f.ask k).did (f.la (f.nd k) : Nat) (f.own k : Nat) (k : Nat)).ev, ps := ((f.ask k).step (f.la (f.nd k) : Nat) (f.own k : Nat) (k : Nat)).ps } := by rw [em]; unfold FL.acq; rw [if_pos p0]
  have es := OrdJ.on_step (L := L) (u := (k : Int)) (k := k) ed2 em2 (by rw [s1]; rfl)
  rw [es]
  rcases hd with e | e
  · rw [if_neg (by omega)]
    refine nx_is (x := 1) (p := 0) (l := 1) (by exact s1) ?_ ?_ rfl
    · show upd f.ph k _ k = 0
      rw [upd_same, e]
    · show (upd f.Lc (f.nd k) _ (f.nd k)).s.st (f.own k) = 1
      rw [upd_same, Inn.step_s, e, (fin_none' (by rw [ya]; rfl)).1]
      exact ya
  · rw [if_pos e]
    refine nx_is (x := 1) (p := 1) (by exact s1) ?_ rfl rfl
    show upd f.ph k _ k = 1
    rw [upd_same, e]
theorem go_calls (h : LkM w L f (nxF f)) (hJ : OrdJ f ga la H V gg Wg) (hk : k < f.s.n) (s1 : f.s.st k = 1) (p0 : f.ph k = 0) (hD : f.ps.D.length < 4611686018427387904) (l0 : (f.Lc (f.nd k)).s.st (f.own k) = 0) : Calls Tryz.prog 43 #[.pointer (some ⟨L.lb, 0, none⟩), .int .i64 (k : Nat), .int .i64 (k : Nat)] w (LmPost w L (f.mid L k k) (nxF (f.step L k k)) (f.did L k k).val) := by
  obtain ⟨hl, ya, hd⟩ := ask_is hJ hk s1 p0
  obtain ⟨ed, em⟩ := OrdJ.at_one (L := L) (u := (k : Int)) hk s1
  have hst := p0_step (L := L) hJ hk s1 p0
  obtain ⟨f1, hf1⟩ : ∃ f1, f1 = ({ f with Lc := upd f.Lc (f.nd k) ((f.Lc (f.nd k)).lock (f.own k : Nat) (-1)) } : FL) := ⟨_, rfl⟩
  have ea : f1.lk (f1.nd k) = f.ask k := by
    rw [hf1]
    unfold FL.ask FL.lk
    rw [if_pos l0]
    show (upd f.Lc (f.nd k) _ (f.nd k)).on f.ps = _
    rw [upd_same, Inn.lock_on]
  have e1 : f1.la (f1.nd k) = f.la (f.nd k) ∧ f1.own k = f.own k := by rw [hf1]; exact ⟨rfl, rfl⟩
  refine (go_any en_calls h hk k (nx_is s1 p0 l0 rfl) fun W q => fl_calls q hk k hD hf1).mono fun e w' hp => go_fin hJ hk hp ?_ ?_ ?_ ?_
  · rw [ea, e1.1, e1.2, ed]
    unfold FL.acqD
    rw [if_pos p0]
  · refine ⟨upd f.ph k ((f.ask k).did (f.la (f.nd k) : Nat) (f.own k : Nat) (k : Nat)).ev, ?_⟩
    rw [ea, e1.1, e1.2, em]
    unfold FL.acq
    rw [if_pos p0, hf1]
    show _ = ({ f with Lc := upd (upd f.Lc (f.nd k) _) (f.nd k) _, ph := _, ps := _ } : FL)
    rw [upd_upd]
  · intro t ht
    split
    · exact up2 t ht
    · exact up1 t ht
  · rw [hst, ea, e1.1, e1.2]
    split
    · rw [upd_same]
    · rw [upd_same]
theorem go_queues (h : LkM w L f (nxF f)) (hJ : OrdJ f ga la H V gg Wg) (hk : k < f.s.n) (s1 : f.s.st k = 1) (p0 : f.ph k = 0) (hD : f.ps.D.length < 4611686018427387904) (l1 : (f.Lc (f.nd k)).s.st (f.own k) ≠ 0) : Calls Tryz.prog 43 #[.pointer (some ⟨L.lb, 0, none⟩), .int .i64 (k : Nat), .int .i64 (k : Nat)] w (LmPost w L (f.mid L k k) (nxF (f.step L k k)) (f.did L k k).val) := by
  obtain ⟨hl, ya, hd⟩ := ask_is hJ hk s1 p0
  obtain ⟨ed, em⟩ := OrdJ.at_one (L := L) (u := (k : Int)) hk s1
  have hst := p0_step (L := L) hJ hk s1 p0
  have ea : f.lk (f.nd k) = f.ask k := by unfold FL.ask; rw [if_neg l1]
  have l2 : (f.Lc (f.nd k)).s.st (f.own k) = 1 := by omega
  have h0 : nxF f k = (.func (.func 86) #[] #[]) := nx_is s1 p0 l2 rfl
  refine (go_any en_queues h hk k h0 fun W q => fl_queues q hk k hD).mono fun e w' hp => go_fin hJ hk hp ?_ ?_ ?_ ?_
  · rw [ea, ed]
    unfold FL.acqD
    rw [if_pos p0]
  · refine ⟨upd f.ph k ((f.ask k).did (f.la (f.nd k) : Nat) (f.own k : Nat) (k : Nat)).ev, ?_⟩
    rw [ea, em]
    unfold FL.acq
    rw [if_pos p0]
  · intro t ht
    split
    · exact up1 t ht
    · rfl
  · rw [hst, ea]
    split
    · rw [upd_same]
    · exact h0
theorem go_looks (h : LkM w L f (nxF f)) (hJ : OrdJ f ga la H V gg Wg) (hk : k < f.s.n) (s1 : f.s.st k = 1) (p1 : f.ph k = 1) (hD : f.ps.D.length < 4611686018427387904) : Calls Tryz.prog 43 #[.pointer (some ⟨L.lb, 0, none⟩), .int .i64 (k : Nat), .int .i64 (k : Nat)] w (LmPost w L (f.mid L k k) (nxF (f.step L k k)) (f.did L k k).val) := by
  obtain ⟨ed, em⟩ := OrdJ.at_one (L := L) (u := (k : Int)) hk s1
  unfold FL.acqD at ed
  unfold FL.acq at em
  rw [if_neg (by omega), if_pos p1] at ed em
  have h0 : nxF f k = (.func (.func 88) #[] #[]) := nx_is s1 p1 rfl rfl
  refine (go_any en_looks h hk k h0 fun W q => fl_looks q hk k hD).mono fun e w' hp => go_fin hJ hk hp ?_ ?_ ?_ ?_
  · rw [ed]
  · rw [em]
    split
    · exact ⟨_, rfl⟩
    · exact ⟨f.ph, rfl⟩
  · intro t ht
    split <;> exact up1 t ht
  · by_cases hv : (tellS f.ps (k : Nat) 1 (L.pA (f.nd k))) = 0
    · rw [if_pos hv, upd_same]
      rw [if_pos hv] at ed em
      have es := OrdJ.on_step (L := L) (u := (k : Int)) (k := k) (by rw [ed]) em (by rw [s1]; rfl)
      rw [es]
      exact (nx_is (x := 1) (p := 2) (by exact s1) (upd_same _ _ _) rfl rfl).symm
    · rw [if_neg hv, upd_same]
      rw [if_neg hv] at ed em
      have es := OrdJ.end_step (L := L) (u := (k : Int)) (k := k) (y := 2) hk (by rw [ed]) em (by rw [s1]; rfl)
      rw [es]
      exact (nx_is (x := 2) (p := 0) (upd_same _ _ _) (upd_same _ _ _) rfl rfl).symm
theorem go_arrives (h : LkM w L f (nxF f)) (hJ : OrdJ f ga la H V gg Wg) (hk : k < f.s.n) (s1 : f.s.st k = 1) (p2 : f.ph k = 2) (hD : f.ps.D.length < 4611686018427387904) : Calls Tryz.prog 43 #[.pointer (some ⟨L.lb, 0, none⟩), .int .i64 (k : Nat), .int .i64 (k : Nat)] w (LmPost w L (f.mid L k k) (nxF (f.step L k k)) (f.did L k k).val) := by
  obtain ⟨ed, em⟩ := OrdJ.at_one (L := L) (u := (k : Int)) hk s1
  unfold FL.acqD at ed
  unfold FL.acq at em
  rw [if_neg (by omega), if_neg (by omega), if_pos p2] at ed em
  have h0 : nxF f k = (.func (.func 92) #[] #[]) := nx_is s1 p2 rfl rfl
  have hc := hJ.cor.ndl k hk
  have hg : f.G.s.st (f.nd k) = 1 := by
    have hx := hJ.cor.cx k hk
    cases hx with
    | glo hx hp hl hq he => exact he
    | _ => omega
  have hd := ((Inn.did_at (x := f.gl) (k := f.nd k) (u := k) (f.ga : Nat) (by unfold FL.gl; rw [Inn.on_s, hJ.gn]; exact hc)).1 (by unfold FL.gl; rw [Inn.on_s]; exact hg)).1
  have es := OrdJ.on_step (L := L) (u := (k : Int)) (k := k) (by rw [ed]) em (by rw [s1]; rfl)
  refine (go_any en_arrives h hk k h0 fun W q => fl_arrives q hk k hD).mono fun e w' hp => go_fin hJ hk hp ?_ ?_ ?_ ?_
  · rw [ed]
  · rw [em]; exact ⟨_, rfl⟩
  · intro t ht
    split
    · exact up1 t ht
    · rfl
  · rw [es]
    rcases hd with e | e
    · rw [if_neg (by omega)]
      exact h0.trans (nx_is (x := 1) (p := 2) (by exact s1) ((upd_same _ _ _).trans (by rw [e]; rfl)) rfl rfl).symm
    · rw [if_pos e, upd_same]
      exact (nx_is (x := 1) (p := 3) (by exact s1) ((upd_same _ _ _).trans (by rw [e]; rfl)) rfl rfl).symm
theorem go_leads (h : LkM w L f (nxF f)) (hJ : OrdJ f ga la H V gg Wg) (hk : k < f.s.n) (s1 : f.s.st k = 1) (p3 : f.ph k = 3) (hD : f.ps.D.length < 4611686018427387904) : Calls Tryz.prog 43 #[.pointer (some ⟨L.lb, 0, none⟩), .int .i64 (k : Nat), .int .i64 (k : Nat)] w (LmPost w L (f.mid L k k) (nxF (f.step L k k)) (f.did L k k).val) := by
  obtain ⟨ed, em⟩ := OrdJ.at_one (L := L) (u := (k : Int)) hk s1
  unfold FL.acqD at ed
  unfold FL.acq at em
  rw [if_neg (by omega), if_neg (by omega), if_neg (by omega)] at ed em
  have h0 : nxF f k = (.func (.func 97) #[] #[]) := nx_is s1 p3 rfl rfl
  have es := OrdJ.end_step (L := L) (u := (k : Int)) (k := k) (y := 2) hk (by rw [ed]) em (by rw [s1]; rfl)
  refine (go_any en_leads h hk k h0 fun W q => fl_leads q hk k hD).mono fun e w' hp => go_fin hJ hk hp ?_ ?_ up1 ?_
  · rw [ed]
  · rw [em]; exact ⟨f.ph, rfl⟩
  · rw [es, upd_same]
    exact (nx_is (x := 2) (p := 0) (upd_same _ _ _) (upd_same _ _ _) rfl rfl).symm
theorem go_counts (h : LkM w L f (nxF f)) (hJ : OrdJ f ga la H V gg Wg) (hk : k < f.s.n) (s3 : f.s.st k = 3) (p0 : f.ph k = 0) (hD : f.ps.D.length < 4611686018427387904) : Calls Tryz.prog 43 #[.pointer (some ⟨L.lb, 0, none⟩), .int .i64 (k : Nat), .int .i64 (k : Nat)] w (LmPost w L (f.mid L k k) (nxF (f.step L k k)) (f.did L k k).val) := by
  obtain ⟨ed, em⟩ := OrdJ.at_three (L := L) (u := (k : Int)) hk s3
  unfold FL.relD at ed
  unfold FL.rel at em
  rw [if_pos p0] at ed em
  have h0 : nxF f k = (.func (.func 91) #[] #[]) := nx_is s3 p0 rfl rfl
  have es := fun m em => OrdJ.on_step (L := L) (u := (k : Int)) (k := k) (m := m) (by rw [ed]) em (by rw [s3]; rfl)
  refine (go_any en_counts h hk k h0 fun W q => fl_counts q hk k hD).mono fun e w' hp => go_fin hJ hk hp ?_ ?_ ?_ ?_
  · rw [ed]
  · rw [em]
    split
    · exact ⟨_, rfl⟩
    · exact ⟨_, rfl⟩
  · intro t ht
    split <;> exact up1 t ht
  · by_cases hv : (tellS f.ps (k : Nat) 1 (L.pA (f.nd k))) < f.bud
    · rw [if_pos hv, upd_same]
      rw [if_pos hv] at em
      rw [es _ em]
      exact (nx_is (x := 3) (p := 1) (by exact s3) (upd_same _ _ _) rfl rfl).symm
    · rw [if_neg hv, upd_same]
      rw [if_neg hv] at em
      rw [es _ em]
      exact (nx_is (x := 3) (p := 3) (by exact s3) (upd_same _ _ _) rfl rfl).symm
theorem go_asks (h : LkM w L f (nxF f)) (hJ : OrdJ f ga la H V gg Wg) (hk : k < f.s.n) (s3 : f.s.st k = 3) (p1 : f.ph k = 1) (hD : f.ps.D.length < 4611686018427387904) : Calls Tryz.prog 43 #[.pointer (some ⟨L.lb, 0, none⟩), .int .i64 (k : Nat), .int .i64 (k : Nat)] w (LmPost w L (f.mid L k k) (nxF (f.step L k k)) (f.did L k k).val) := by
  obtain ⟨ed, em⟩ := OrdJ.at_three (L := L) (u := (k : Int)) hk s3
  unfold FL.relD at ed
  unfold FL.rel at em
  rw [if_neg (by omega), if_pos p1] at ed em
  have h0 : nxF f k = (.func (.func 96) #[] #[]) := nx_is s3 p1 rfl rfl
  have hg : (f.Lc (f.nd k)).s.st (f.own k) = 4 := by
    have hx := hJ.cor.cx k hk
    cases hx with
    | u1 hx hp hl he q1 q2 hg => exact hl
    | _ => omega
  have hd := ((Inn.did_at (x := f.lk (f.nd k)) (k := f.own k) (u := k) (f.la (f.nd k) : Nat) (by rw [lk_s]; exact hJ.own k hk)).2.2.1 (by rw [lk_s]; exact hg)).1
  have es := OrdJ.on_step (L := L) (u := (k : Int)) (k := k) (by rw [ed]) em (by rw [s3]; rfl)
  refine (go_any en_asks h hk k h0 fun W q => fl_asks q hk k hD).mono fun e w' hp => go_fin hJ hk hp ?_ ?_ ?_ ?_
  · rw [ed]
  · rw [em]; exact ⟨_, rfl⟩
  · intro t ht
    split <;> exact up1 t ht
  · rw [es]
    rcases hd with e | e
    · rw [if_pos e, upd_same]
      exact (nx_is (x := 3) (p := 3) (by exact s3) ((upd_same _ _ _).trans (if_neg (by omega))) rfl rfl).symm
    · rw [if_neg (by omega), upd_same]
      exact (nx_is (x := 3) (p := 2) (by exact s3) ((upd_same _ _ _).trans (if_pos e)) rfl rfl).symm
theorem go_keeps (h : LkM w L f (nxF f)) (hJ : OrdJ f ga la H V gg Wg) (hk : k < f.s.n) (s3 : f.s.st k = 3) (p2 : f.ph k = 2) (hD : f.ps.D.length < 4611686018427387904) : Calls Tryz.prog 43 #[.pointer (some ⟨L.lb, 0, none⟩), .int .i64 (k : Nat), .int .i64 (k : Nat)] w (LmPost w L (f.mid L k k) (nxF (f.step L k k)) (f.did L k k).val) := by
  obtain ⟨ed, em⟩ := OrdJ.at_three (L := L) (u := (k : Int)) hk s3
  unfold FL.relD at ed
  unfold FL.rel at em
  rw [if_neg (by omega), if_neg (by omega), if_pos p2] at ed em
  have h0 : nxF f k = (.func (.func 102) #[] #[]) := nx_is s3 p2 rfl rfl
  have hg : 0 ≤ f.got k ∧ f.got k ≤ 1000000 := by
    have hx := hJ.cor.cx k hk
    have hb := hJ.bud
    cases hx with
    | u2 hx hp hl he q1 q2 hg hv => omega
    | _ => omega
  have es := OrdJ.on_step (L := L) (u := (k : Int)) (k := k) (by rw [ed]) em (by rw [s3]; rfl)
  refine (go_any en_keeps h hk k h0 fun W q => fl_keeps q hk k hD hg).mono fun e w' hp => go_fin hJ hk hp ?_ ?_ up1 ?_
  · rw [ed]
  · rw [em]; exact ⟨_, rfl⟩
  · rw [es, upd_same]
    exact (nx_is (x := 3) (p := 5) (by exact s3) (upd_same _ _ _) rfl rfl).symm
theorem go_ends (h : LkM w L f (nxF f)) (hJ : OrdJ f ga la H V gg Wg) (hk : k < f.s.n) (s3 : f.s.st k = 3) (p3 : f.ph k = 3) (hD : f.ps.D.length < 4611686018427387904) : Calls Tryz.prog 43 #[.pointer (some ⟨L.lb, 0, none⟩), .int .i64 (k : Nat), .int .i64 (k : Nat)] w (LmPost w L (f.mid L k k) (nxF (f.step L k k)) (f.did L k k).val) := by
  obtain ⟨ed, em⟩ := OrdJ.at_three (L := L) (u := (k : Int)) hk s3
  unfold FL.relD at ed
  unfold FL.rel at em
  rw [if_neg (by omega), if_neg (by omega), if_neg (by omega), if_pos p3] at ed em
  have h0 : nxF f k = (.func (.func 95) #[] #[]) := nx_is s3 p3 rfl rfl
  have es := OrdJ.on_step (L := L) (u := (k : Int)) (k := k) (by rw [ed]) em (by rw [s3]; rfl)
  refine (go_any en_ends h hk k h0 fun W q => fl_ends q hk k hD).mono fun e w' hp => go_fin hJ hk hp ?_ ?_ up1 ?_
  · rw [ed]
  · rw [em]; exact ⟨_, rfl⟩
  · rw [es, upd_same]
    exact (nx_is (x := 3) (p := 4) (by exact s3) (upd_same _ _ _) rfl rfl).symm
theorem go_yields (h : LkM w L f (nxF f)) (hJ : OrdJ f ga la H V gg Wg) (hk : k < f.s.n) (s3 : f.s.st k = 3) (p4 : f.ph k = 4) (hD : f.ps.D.length < 4611686018427387904) : Calls Tryz.prog 43 #[.pointer (some ⟨L.lb, 0, none⟩), .int .i64 (k : Nat), .int .i64 (k : Nat)] w (LmPost w L (f.mid L k k) (nxF (f.step L k k)) (f.did L k k).val) := by
  obtain ⟨ed, em⟩ := OrdJ.at_three (L := L) (u := (k : Int)) hk s3
  unfold FL.relD at ed
  unfold FL.rel at em
  rw [if_neg (by omega), if_neg (by omega), if_neg (by omega), if_neg (by omega), if_pos p4] at ed em
  have h0 : nxF f k = (.func (.func 101) #[] #[]) := nx_is s3 p4 rfl rfl
  have es := fun m em => OrdJ.on_step (L := L) (u := (k : Int)) (k := k) (m := m) (by rw [ed]) em (by rw [s3]; rfl)
  refine (go_any en_yields h hk k h0 fun W q => fl_yields q hk k hD).mono fun e w' hp => go_fin hJ hk hp ?_ ?_ ?_ ?_
  · rw [ed]
  · rw [em]
    split
    · exact ⟨_, rfl⟩
    · exact ⟨f.ph, rfl⟩
  · intro t ht
    split
    · exact up1 t ht
    · rfl
  · by_cases hv : (f.gl.did (f.ga : Nat) (f.nd k : Nat) (k : Nat)).ev = 3
    · rw [if_pos hv, upd_same]
      rw [if_pos hv] at em
      rw [es _ em]
      exact (nx_is (x := 3) (p := 5) (by exact s3) (upd_same _ _ _) rfl rfl).symm
    · rw [if_neg hv]
      rw [if_neg hv] at em
      rw [es _ em]
      exact h0.trans (nx_is (x := 3) (p := 4) (by exact s3) (by exact p4) rfl rfl).symm
theorem go_leaves (h : LkM w L f (nxF f)) (hJ : OrdJ f ga la H V gg Wg) (hk : k < f.s.n) (s3 : f.s.st k = 3) (p5 : f.ph k = 5) (hD : f.ps.D.length < 4611686018427387904) : Calls Tryz.prog 43 #[.pointer (some ⟨L.lb, 0, none⟩), .int .i64 (k : Nat), .int .i64 (k : Nat)] w (LmPost w L (f.mid L k k) (nxF (f.step L k k)) (f.did L k k).val) := by
  obtain ⟨ed, em⟩ := OrdJ.at_three (L := L) (u := (k : Int)) hk s3
  unfold FL.relD at ed
  unfold FL.rel at em
  rw [if_neg (by omega), if_neg (by omega), if_neg (by omega), if_neg (by omega), if_neg (by omega)] at ed em
  have h0 : nxF f k = (.func (.func 106) #[] #[]) := nx_is s3 p5 rfl rfl
  have hg : (f.Lc (f.nd k)).s.st (f.own k) = 3 := by
    have hx := hJ.cor.cx k hk
    cases hx with
    | u5 hx hp hl h => exact hl
    | _ => omega
  have hd := ((Inn.did_at (x := f.lk (f.nd k)) (k := f.own k) (u := k) (f.la (f.nd k) : Nat) (by rw [lk_s]; exact hJ.own k hk)).2.1 (by rw [lk_s]; exact hg)).1
  refine (go_any en_leaves h hk k h0 fun W q => fl_leaves q hk k hD).mono fun e w' hp => go_fin hJ hk hp ?_ ?_ ?_ ?_
  · rw [ed]
    rcases hd with e | e
    · rw [if_neg (by omega), e]; rfl
    · rw [if_pos e, e]
  · rw [em]; exact ⟨f.ph, rfl⟩
  · intro t ht
    split
    · exact up1 t ht
    · rfl
  · rcases hd with e | e
    · rw [if_neg (by omega)]
      have es := OrdJ.on_step (L := L) (u := (k : Int)) (k := k) (by rw [ed, e]) em (by rw [s3]; rfl)
      rw [es]
      exact h0.trans (nx_is (x := 3) (p := 5) (by exact s3) (by exact p5) rfl rfl).symm
    · rw [if_pos e, upd_same]
      have es := OrdJ.end_step (L := L) (u := (k : Int)) (k := k) (y := 0) hk (by rw [ed, e]) em (by rw [s3]; rfl)
      rw [es]
      exact (nx_is (x := 0) (p := 0) (upd_same _ _ _) (upd_same _ _ _) rfl rfl).symm
theorem fl_go (h : LkM w L f (nxF f)) (hJ : OrdJ f ga la H V gg Wg) (hk : k < f.s.n) (hs : f.s.st k = 1 ∨ f.s.st k = 3) (hD : f.ps.D.length < 4611686018427387904) : Calls Tryz.prog 43 #[.pointer (some ⟨L.lb, 0, none⟩), .int .i64 (k : Nat), .int .i64 (k : Nat)] w (LmPost w L (f.mid L k k) (nxF (f.step L k k)) (f.did L k k).val) := by
  have hx := hJ.cor.cx k hk
  rcases hs with s1 | s3
  · have hp : f.ph k = 0 ∨ f.ph k = 1 ∨ f.ph k = 2 ∨ f.ph k = 3 := by cases hx <;> omega
    rcases hp with p | p | p | p
    · by_cases l : (f.Lc (f.nd k)).s.st (f.own k) = 0
      · exact go_calls h hJ hk s1 p hD l
      · exact go_queues h hJ hk s1 p hD l
    · exact go_looks h hJ hk s1 p hD
    · exact go_arrives h hJ hk s1 p hD
    · exact go_leads h hJ hk s1 p hD
  · have hp : f.ph k = 0 ∨ f.ph k = 1 ∨ f.ph k = 2 ∨ f.ph k = 3 ∨ f.ph k = 4 ∨ f.ph k = 5 := by cases hx <;> omega
    rcases hp with p | p | p | p | p | p
    · exact go_counts h hJ hk s3 p hD
    · exact go_asks h hJ hk s3 p hD
    · exact go_keeps h hJ hk s3 p hD
    · exact go_ends h hJ hk s3 p hD
    · exact go_yields h hJ hk s3 p hD
    · exact go_leaves h hJ hk s3 p hD
end
end Go.Proofs.YtkmikkjjnbikdaaGreat
