/- A whole step of a CLH lock: what homed.Step does of it, and its own Step. -/
import Derived.Test.YteokghghpmppnaaGreatDoorClhDo
import Derived.WalkLawsBesides
import Derived.Outline
import Derived.Deep.QuietTactic
import Derived.Deep.RegionHeld3
import Derived.BigQuiet
import Derived.BigFrame
import Derived.Handy
import Derived.OpenShut
import Derived.Lib.Walk
import Derived.WalkKit
import Derived.Lib.Hide
namespace Go.Proofs.YteokghghpmppnaaGreatDoor.Kc
open Go.RowKit Go.BigFrame
set_option linter.unusedVariables false
set_option maxRecDepth 100000

theorem FL.mid_n (f : FL) (L : Lp) (t u : Int) : (f.mid L t u).s.n = f.s.n := by rw [f.mid_s]
/-- behind homed.Step's first steps: the calls' block, the result's block B, the block C of what the step did -/
structure Fd (w : World) (B : Nat) (X : World) (L : Lp) (f : FL) (C : Nat) (d : Dd) : Prop where
  fr : Fr w B X L f
  did : X.heap[C]? = some (.cells (didC d) 164 (0, 0))
  far : w.heap.size ≤ C
  ne : C ≠ B
theorem Fd.cell {w X : World} {B C : Nat} {L : Lp} {f : FL} {d : Dd} (h : Fd w B X L f C d) : X.cell? ⟨C, 0, none⟩ = some (.int .i64 d.ev) ∧ X.cell? ⟨C, 1, none⟩ = some (.bool d.enq) ∧ X.cell? ⟨C, 2, none⟩ = some (.bool d.arr) ∧ X.cell? ⟨C, 3, none⟩ = some (.bool d.lead) := by
  rw [blk_cell h.did, blk_cell h.did, blk_cell h.did, blk_cell h.did]; exact ⟨rfl, rfl, rfl, rfl⟩
theorem Fd.frz {w X : World} {B C : Nat} {L : Lp} {f : FL} {d : Dd} (h : Fd w B X L f C d) : X.frozen? ⟨C, 0, none⟩ = false ∧ X.frozen? ⟨C, 1, none⟩ = false ∧ X.frozen? ⟨C, 2, none⟩ = false ∧ X.frozen? ⟨C, 3, none⟩ = false :=
  ⟨blk_frozen h.did 0, blk_frozen h.did 1, blk_frozen h.did 2, blk_frozen h.did 3⟩
/-- behind one of the lock's own calls -/
theorem Fd.call {w X Y : World} {B C : Nat} {L : Lp} {f g f0 : FL} {d : Dd} (h0 : LkAt w L f0) (h : Fd w B X L f C d) (hl : LkAt Y L g) (k : Wrote (LF L) X Y) : Fd w B Y L g C d :=
  ⟨Fr.call h0 h.fr hl k, (k.block C (blk_lt h.did) (fun e => by have := h0.lf_lt e; have := h.far; omega)).trans h.did, h.far, h.ne⟩
/-- what it told is kept -/
theorem Fd.keep {w X : World} {B C : Nat} {L : Lp} {f f0 : FL} {d : Dd} (h0 : LkAt w L f0) (h : Fd w B X L f C d) (d' : Dd) :
    Fd w B ((((X.setCell ⟨C, 0, none⟩ (.int .i64 d'.ev)).setCell ⟨C, 1, none⟩ (.bool d'.enq)).setCell ⟨C, 2, none⟩ (.bool d'.arr)).setCell ⟨C, 3, none⟩ (.bool d'.lead)) L f C d' := by
  have k := wrote4 X C (.int .i64 d'.ev) (.bool d'.enq) (.bool d'.arr) (.bool d'.lead)
  have hf := h.far
  have hC : ∀ j, j < w.heap.size → ¬ One C j := fun j hj e => by cases e; omega
  refine ⟨⟨h.fr.lk.wrote k (hC _ (blk_lt h0.raw.obj)) (hC _ (blk_lt h0.raw.seat.obj)) (hC _ (blk_lt h0.raw.seat.ctx)) (hC _ (blk_lt h0.raw.tick)) (fun b _ b2 => hC b (Nat.lt_of_lt_of_le b2 h0.top)), h.fr.wr.trans k fun b hb e => (hC b hb e).elim, (k.block B (blk_lt h.fr.res) fun e => h.ne e.symm).trans h.fr.res, h.fr.new⟩, set4 h.did rfl _ _ _ _, h.far, h.ne⟩
theorem Fd.ends {w X Y : World} {B C : Nat} {L : Lp} {f g : FL} {d : Dd} (h0 : LkAt w L f) (h : Fd w B X L g C d) {s' : SS} (hS : SeatAt Y L.p L.b s') (hn : s'.n = g.s.n) (k : Wrote (One L.b) X Y) : Fd w B Y L { g with s := s' } C d :=
  h.call h0 (h.fr.lk.seats hS hn k) (lf_b k)
theorem hs_start {w : World} {L : Lp} {f : FL} (h : LkAt w L f) (cs : Array Value) :
    Fd w (w.heap.size + 1) (((w.alloc (.cells cs 200)).alloc (.cells #[.int .i64 0, .bool false, .bool false, .bool false] 164)).alloc (.cells #[.int .i64 0, .bool false, .bool false, .bool false] 164)) L f (w.heap.size + 1 + 1) Dd.no ∧
    (((w.alloc (.cells cs 200)).alloc (.cells #[.int .i64 0, .bool false, .bool false, .bool false] 164)).alloc (.cells #[.int .i64 0, .bool false, .bool false, .bool false] 164)).heap[w.heap.size]? = some (.cells cs 200 (0, 0)) := by
  have e1 : (w.alloc (.cells cs 200)).heap.size = w.heap.size + 1 := Go.Deep.nblk_alloc _ _
  have e2 : ((w.alloc (.cells cs 200)).alloc (.cells #[.int .i64 0, .bool false, .bool false, .bool false] 164)).heap.size = w.heap.size + 1 + 1 := by rw [Go.Deep.nblk_alloc, e1]
  have k : Wrote Nil w (((w.alloc (.cells cs 200)).alloc (.cells #[.int .i64 0, .bool false, .bool false, .bool false] 164)).alloc (.cells #[.int .i64 0, .bool false, .bool false, .bool false] 164)) := (((Wrote.refl _ w).alloc _).alloc _).alloc _
  refine ⟨⟨⟨h.after k, k.mono fun _ _ e => e.elim, ?_, Nat.le_succ _⟩, ?_, by omega, by omega⟩, ?_⟩
  · rw [Go.Deep.blk_alloc_lt _ _ _ (by rw [e2]; omega), ← e1, Go.Deep.blk_alloc_new]; rfl
  · rw [← e2, Go.Deep.blk_alloc_new]; rfl
  · rw [Go.Deep.blk_alloc_lt _ _ _ (by rw [e2]; omega), Go.Deep.blk_alloc_lt _ _ _ (by rw [e1]; omega), Go.Deep.blk_alloc_new]

set_option maxHeartbeats 2000000 in
theorem hs_step {w : World} {L : Lp} {f : FL} (h : LkAt w L f) (t u : Int) (hD : f.ps.D.length < 4611686018427387904) :
    Calls Tryz.prog 108 #[.pointer (some ⟨L.p, 0, none⟩), .int .i64 t, .int .i64 u, .agg #[Value.func (.func 124) #[.pointer (some ⟨L.lb, 0, none⟩)] #[], Value.func (.func 125) #[.pointer (some ⟨L.lb, 0, none⟩)] #[], Value.func (.func 126) #[.pointer (some ⟨L.lb, 0, none⟩)] #[]]] w (LkPost w L (f.step L t u) (f.did L t u).val) := by
  obtain ⟨hF, hB⟩ := hs_start h #[Value.func (.func 124) #[.pointer (some ⟨L.lb, 0, none⟩)] #[], Value.func (.func 125) #[.pointer (some ⟨L.lb, 0, none⟩)] #[], Value.func (.func 126) #[.pointer (some ⟨L.lb, 0, none⟩)] #[]]
  obtain ⟨Z, hZ⟩ : ∃ Z, Z = ((w.alloc (.cells #[Value.func (.func 124) #[.pointer (some ⟨L.lb, 0, none⟩)] #[], Value.func (.func 125) #[.pointer (some ⟨L.lb, 0, none⟩)] #[], Value.func (.func 126) #[.pointer (some ⟨L.lb, 0, none⟩)] #[]] 200)).alloc (.cells #[.int .i64 0, .bool false, .bool false, .bool false] 164)).alloc (.cells #[.int .i64 0, .bool false, .bool false, .bool false] 164) := ⟨_, rfl⟩
  rw [← hZ] at hF hB
  have b0 : Z.cell? ⟨w.heap.size, 0, none⟩ = some (Value.func (.func 124) #[.pointer (some ⟨L.lb, 0, none⟩)] #[]) := (blk_cell hB 0).trans rfl
  have b1 : Z.cell? ⟨w.heap.size, 1, none⟩ = some (Value.func (.func 125) #[.pointer (some ⟨L.lb, 0, none⟩)] #[]) := (blk_cell hB 1).trans rfl
  have b2 : Z.cell? ⟨w.heap.size, 2, none⟩ = some (Value.func (.func 126) #[.pointer (some ⟨L.lb, 0, none⟩)] #[]) := (blk_cell hB 2).trans rfl
  have cS := se_state hF.fr.lk.raw.seat t
  obtain ⟨v0, v1, v2, v3⟩ := hF.fr.cell
  obtain ⟨x0, x1, x2, x3⟩ := hF.fr.frz
  obtain ⟨p0, p1, p2, p3⟩ := hF.cell
  have hn := h.raw.seat.n2
  by_cases ht : 0 ≤ t ∧ t < f.s.n
  · obtain ⟨k, rfl⟩ := Int.eq_ofNat_of_zero_le ht.1
    have hk : k < f.s.n := by omega
    have eS : f.s.stI (k : Int) = f.s.st k := by unfold SS.stI; rw [if_pos ht, Int.toNat_natCast]
    rw [eS] at cS
    by_cases h1 : f.s.st k = 1
    · have e1 : f.mid L k u = f.acq L k u := by unfold FL.mid; rw [if_pos ht, Int.toNat_natCast, if_pos h1]
      have e2 : f.did L k u = f.acqD L k u := by unfold FL.did; rw [if_pos ht, Int.toNat_natCast, if_pos h1]
      have es := f.mid_s L k u
      unfold FL.step
      rw [e1] at es
      rw [e1, e2]
      rw [h1] at cS
      have cA := fl_acq hF.fr.lk k hk u hD
      generalize f.acq L k u = g at *
      generalize f.acqD L k u = d at *
      have HE := Lib.hid (And.intro h (And.intro hF es))
      have HZ := Lib.hid hZ
      clear h hF eS e1 e2 hB es hZ h1
      generalize f.s.n = n at *
      go_enter Tryz.func108, Tryz.ntmps108
      go_wp2_with (first
        | (go_at_call 101; rw [← HZ.out]; (with_reducible refine cS.mono ?_); rintro e w' ⟨rfl, rfl⟩)
        | (go_at_call 124; (with_reducible refine cA.mono ?_); intro e w2 hq; unfold LkPost at hq; obtain ⟨rfl, hA, hW⟩ := hq; dsimp only [Dd.val]; have hA3 := HE.out.2.1.call HE.out.1 hA hW; obtain ⟨p0, p1, p2, p3⟩ := hA3.cell; obtain ⟨y0, y1, y2, y3⟩ := hA3.frz; have hK := hA3.keep HE.out.1 d; have cE := se_end hK.fr.lk.raw.seat (k : Int) d.ev; have HK := Lib.hid hK; clear hA hA3 hK hW)
        | (go_at_call 112; (with_reducible refine cE.mono ?_); intro e w3 hq; unfold SeatPost at hq; obtain ⟨rfl, hS, hW⟩ := hq; have hY := HK.out.ends HE.out.1 hS (SS.fin_n _ _ _) hW; obtain ⟨e0, e1, e2, e3⟩ := hY.cell; obtain ⟨v0, v1, v2, v3⟩ := hY.fr.cell; obtain ⟨x0, x1, x2, x3⟩ := hY.fr.frz; have HT := Lib.hid hY; clear hY hS hW))
      rw [← HE.out.2.2]
      refine bodyPost_ret (v := Dd.val d) (results_cell_row rfl _ _ (w.heap.size + 1) 164 _ (0, 0) _ rfl (set4 HT.out.fr.res rfl _ _ _ _) Tryz.underlying164 rfl i_did) rfl (HT.out.fr.told HE.out.1 d)
    by_cases h3 : f.s.st k = 3
    · have e1 : f.mid L k u = f.rel L k u := by unfold FL.mid; rw [if_pos ht, Int.toNat_natCast, if_neg h1, if_pos h3]
      have e2 : f.did L k u = ⟨3, false, false, false⟩ := by unfold FL.did; rw [if_pos ht, Int.toNat_natCast, if_neg h1, if_pos h3]
      have es := f.mid_s L k u
      unfold FL.step
      rw [e1] at es
      rw [e1, e2]
      rw [h3] at cS
      have cA := fl_rel hF.fr.lk k hk u hD
      generalize f.rel L k u = g at *
      have HE := Lib.hid (And.intro h (And.intro hF es))
      have HZ := Lib.hid hZ
      clear h hF eS e1 e2 hB es hZ h1 h3
      generalize f.s.n = n at *
      go_enter Tryz.func108, Tryz.ntmps108
      go_wp2_with (first
        | (go_at_call 101; rw [← HZ.out]; (with_reducible refine cS.mono ?_); rintro e w' ⟨rfl, rfl⟩)
        | (go_at_call 125; (with_reducible refine cA.mono ?_); intro e w2 hq; unfold LkPost at hq; obtain ⟨rfl, hA, hW⟩ := hq; dsimp only [Dd.val]; have hA3 := HE.out.2.1.call HE.out.1 hA hW; obtain ⟨p0, p1, p2, p3⟩ := hA3.cell; obtain ⟨y0, y1, y2, y3⟩ := hA3.frz; have hK := hA3.keep HE.out.1 ⟨3, false, false, false⟩; have cE := se_end hK.fr.lk.raw.seat (k : Int) 3; have HK := Lib.hid hK; clear hA hA3 hK hW)
        | (go_at_call 112; (with_reducible refine cE.mono ?_); intro e w3 hq; unfold SeatPost at hq; obtain ⟨rfl, hS, hW⟩ := hq; have hY := HK.out.ends HE.out.1 hS (SS.fin_n _ _ _) hW; obtain ⟨e0, e1, e2, e3⟩ := hY.cell; obtain ⟨v0, v1, v2, v3⟩ := hY.fr.cell; obtain ⟨x0, x1, x2, x3⟩ := hY.fr.frz; have HT := Lib.hid hY; clear hY hS hW))
      rw [← HE.out.2.2]
      refine bodyPost_ret (v := Dd.val ⟨3, false, false, false⟩) (results_cell_row rfl _ _ (w.heap.size + 1) 164 _ (0, 0) _ rfl (set4 HT.out.fr.res rfl _ _ _ _) Tryz.underlying164 rfl i_did) rfl (HT.out.fr.told HE.out.1 ⟨3, false, false, false⟩)
    by_cases h4 : f.s.st k = 4
    · have e1 : f.mid L k u = f.ask L k u := by unfold FL.mid; rw [if_pos ht, Int.toNat_natCast, if_neg h1, if_neg h3, if_pos h4]
      have e2 : f.did L k u = f.askD L k u := by unfold FL.did; rw [if_pos ht, Int.toNat_natCast, if_neg h1, if_neg h3, if_pos h4]
      have es := f.mid_s L k u
      unfold FL.step
      rw [e1] at es
      rw [e1, e2]
      rw [h4] at cS
      have cA := fl_ask hF.fr.lk k hk u hD
      generalize f.ask L k u = g at *
      generalize f.askD L k u = d at *
      have HE := Lib.hid (And.intro h (And.intro hF es))
      have HZ := Lib.hid hZ
      clear h hF eS e1 e2 hB es hZ h1 h3 h4
      generalize f.s.n = n at *
      go_enter Tryz.func108, Tryz.ntmps108
      go_wp2_with (first
        | (go_at_call 101; rw [← HZ.out]; (with_reducible refine cS.mono ?_); rintro e w' ⟨rfl, rfl⟩)
        | (go_at_call 126; (with_reducible refine cA.mono ?_); intro e w2 hq; unfold LkPost at hq; obtain ⟨rfl, hA, hW⟩ := hq; dsimp only [Dd.val]; have hA3 := HE.out.2.1.call HE.out.1 hA hW; obtain ⟨p0, p1, p2, p3⟩ := hA3.cell; obtain ⟨y0, y1, y2, y3⟩ := hA3.frz; have hK := hA3.keep HE.out.1 d; have cE := se_end hK.fr.lk.raw.seat (k : Int) d.ev; have HK := Lib.hid hK; clear hA hA3 hK hW)
        | (go_at_call 112; (with_reducible refine cE.mono ?_); intro e w3 hq; unfold SeatPost at hq; obtain ⟨rfl, hS, hW⟩ := hq; have hY := HK.out.ends HE.out.1 hS (SS.fin_n _ _ _) hW; obtain ⟨e0, e1, e2, e3⟩ := hY.cell; obtain ⟨v0, v1, v2, v3⟩ := hY.fr.cell; obtain ⟨x0, x1, x2, x3⟩ := hY.fr.frz; have HT := Lib.hid hY; clear hY hS hW))
      rw [← HE.out.2.2]
      refine bodyPost_ret (v := Dd.val d) (results_cell_row rfl _ _ (w.heap.size + 1) 164 _ (0, 0) _ rfl (set4 HT.out.fr.res rfl _ _ _ _) Tryz.underlying164 rfl i_did) rfl (HT.out.fr.told HE.out.1 d)
    have e1 : f.mid L k u = f := by unfold FL.mid; rw [if_pos ht, Int.toNat_natCast, if_neg h1, if_neg h3, if_neg h4]
    have e2 : f.did L k u = Dd.no := by unfold FL.did; rw [if_pos ht, Int.toNat_natCast, if_neg h1, if_neg h3, if_neg h4]
    have hK := hF
    have cE := se_end hK.fr.lk.raw.seat (k : Int) Dd.no.ev
    have HE := Lib.hid (And.intro h hF)
    have HK := Lib.hid hK
    have HZ := Lib.hid hZ
    unfold FL.step
    rw [e1, e2]
    clear h hF hK eS e1 e2 hB hZ b0 b1 b2
    generalize f.s.st k = x at *
    generalize f.s.n = n at *
    go_enter Tryz.func108, Tryz.ntmps108
    go_wp2_with (first
      | (go_at_call 101; rw [← HZ.out]; (with_reducible refine cS.mono ?_); rintro e w' ⟨rfl, rfl⟩)
      | (go_at_call 112; (with_reducible refine cE.mono ?_); intro e w3 hq; unfold SeatPost at hq; obtain ⟨rfl, hS, hW⟩ := hq; have hY := HK.out.ends HE.out.1 hS (SS.fin_n _ _ _) hW; obtain ⟨e0, e1, e2, e3⟩ := hY.cell; obtain ⟨v0, v1, v2, v3⟩ := hY.fr.cell; obtain ⟨x0, x1, x2, x3⟩ := hY.fr.frz; have HT := Lib.hid hY; clear hY hS hW))
    refine bodyPost_ret (v := Dd.val Dd.no) (results_cell_row rfl _ _ (w.heap.size + 1) 164 _ (0, 0) _ rfl (set4 HT.out.fr.res rfl _ _ _ _) Tryz.underlying164 rfl i_did) rfl (HT.out.fr.told HE.out.1 Dd.no)
  · have eS : f.s.stI t = 0 := if_neg ht
    rw [eS] at cS
    have e1 : f.mid L t u = f := by unfold FL.mid; rw [if_neg ht]
    have e2 : f.did L t u = Dd.no := by unfold FL.did; rw [if_neg ht]
    have hK := hF
    have cE := se_end hK.fr.lk.raw.seat t Dd.no.ev
    have HE := Lib.hid (And.intro h hF)
    have HK := Lib.hid hK
    have HZ := Lib.hid hZ
    unfold FL.step
    rw [e1, e2]
    clear h hF hK eS e1 e2 hB hZ b0 b1 b2 ht
    go_enter Tryz.func108, Tryz.ntmps108
    go_wp2_with (first
      | (go_at_call 101; rw [← HZ.out]; (with_reducible refine cS.mono ?_); rintro e w' ⟨rfl, rfl⟩)
      | (go_at_call 112; (with_reducible refine cE.mono ?_); intro e w3 hq; unfold SeatPost at hq; obtain ⟨rfl, hS, hW⟩ := hq; have hY := HK.out.ends HE.out.1 hS (SS.fin_n _ _ _) hW; obtain ⟨e0, e1, e2, e3⟩ := hY.cell; obtain ⟨v0, v1, v2, v3⟩ := hY.fr.cell; obtain ⟨x0, x1, x2, x3⟩ := hY.fr.frz; have HT := Lib.hid hY; clear hY hS hW))
    refine bodyPost_ret (v := Dd.val Dd.no) (results_cell_row rfl _ _ (w.heap.size + 1) 164 _ (0, 0) _ rfl (set4 HT.out.fr.res rfl _ _ _ _) Tryz.underlying164 rfl i_did) rfl (HT.out.fr.told HE.out.1 Dd.no)
end Go.Proofs.YteokghghpmppnaaGreatDoor.Kc
