/- The contracts of a lock of locks' steps: arrives. -/
import Derived.Test.YtkmikkjjnbikdaaGreatCohortDo
import Derived.Test.YtkmikkjjnbikdaaGreatCohortAcq
import Derived.Deep.Cut
import Derived.Laws.EntriesVeiled
import Derived.Deep.CutRange
namespace Go.Proofs.YtkmikkjjnbikdaaGreat
open Go.RowKit Go.BigFrame
set_option linter.unusedVariables false
set_option maxRecDepth 100000
set_option maxHeartbeats 8000000

/-- the lock of all steps -/
theorem lm_gstep {w : World} {L : Lp} {f : FL} {nx : Nat → Value} (h : LkM w L f nx) {k : Nat} (hk : k < f.s.n) (u y : Int) (hD : f.ps.D.length < 4611686018427387904) :
    Calls Tryz.prog f.G.stepF #[.pointer (some ⟨L.gi.lb, 0, none⟩), .int .i64 (f.nd k : Nat), .int .i64 u, .int .i64 y] w
      (LmPost w L { f with G := (f.gl.step (f.ga : Nat) (f.nd k : Nat) u), ps := (f.gl.step (f.ga : Nat) (f.nd k : Nat) u).ps } nx (f.gl.did (f.ga : Nat) (f.nd k : Nat) u).val) := by
  have ha := h.raw.adr.2.1
  refine (in_step h.raw.glo h.port h.far.1 h.top (f.nd k : Nat) u y hD).mono ?_
  rintro e w' ⟨rfl, h1, h2, h3⟩
  rw [ha] at h1 h2 ⊢
  exact ⟨rfl, h.globS h1 h2 h3, lf_gq h h3⟩
theorem fl_arrives {w : World} {L : Lp} {f : FL} {nx : Nat → Value} (h : LkM w L f nx) {k : Nat} (hk : k < f.s.n) (u : Int) (hD : f.ps.D.length < 4611686018427387904) :
    Calls Tryz.prog 92 #[.pointer (some ⟨L.lb, 0, none⟩), .pointer (some ⟨L.tb, k * 4, none⟩), .int .i64 u] w
      (LmPost w L { f with G := (f.gl.step (f.ga : Nat) (f.nd k : Nat) u), ps := (f.gl.step (f.ga : Nat) (f.nd k : Nat) u).ps }
        (if (f.gl.did (f.ga : Nat) (f.nd k : Nat) u).ev = 1 then upd nx k (.func (.func 97) #[] #[]) else nx)
        (Dd.val ⟨0, false, (f.gl.did (f.ga : Nat) (f.nd k : Nat) u).enq, false⟩)) := by
  have hF := Fr.start h
  obtain ⟨n1, n2⟩ := h.raw.nod k hk
  obtain ⟨Z, hZ⟩ : ∃ Z, Z = w.alloc (.cells #[.int .i64 0, .bool false, .bool false, .bool false] 71) := ⟨_, rfl⟩
  rw [← hZ] at hF
  have c4 := hF.lk.raw.cell4
  unfold Ip.val at c4
  have r0 := hF.lk.raw.cx0 hk
  have ne1 : ¬ Z.heap.size = L.tb := by have := blk_lt hF.lk.raw.tick; omega
  have ne2 : ¬ L.tb = Z.heap.size := by have := blk_lt hF.lk.raw.tick; omega
  have ne3 : ¬ Z.heap.size = L.lb := by have := blk_lt hF.lk.raw.obj; omega
  have ne4 : ¬ L.lb = Z.heap.size := by have := blk_lt hF.lk.raw.obj; omega
  have vS := hF.lk.raw.glo.via_step
  have cI := fun W (q : Wrote Nil Z W) => lm_gstep (hF.lk.after q) hk u 0 hD
  have hF3 := f.G.step_enter
  generalize hx' : (f.gl.step (f.ga : Nat) (f.nd k : Nat) u) = x' at *
  generalize (f.gl.did (f.ga : Nat) (f.nd k : Nat) u) = d at *
  generalize f.G.stepF = F at *
  obtain ⟨f', hf'⟩ : ∃ f', f' = ({ f with G := x', ps := x'.ps } : FL) := ⟨_, rfl⟩
  rw [← hf'] at cI
  rw [← hf']
  have hk' : k < f'.s.n := by rw [hf']; exact hk
  have how : f'.nd = f.nd := by rw [hf']
  clear hf' hx'
  obtain ⟨nx', hnx⟩ : ∃ nx', nx' = (if d.ev = 1 then upd nx k (.func (.func 97) #[] #[]) else nx) := ⟨_, rfl⟩
  rw [← hnx]
  have HK := Lib.hid hk'
  have HH := Lib.hid (And.intro how hnx)
  clear hk' how hnx
  have HE := Lib.hid (And.intro h (And.intro hk hF))
  have HZ := Lib.hid hZ
  clear h hF hZ n1 n2
  go_enter Tryz.func92, Tryz.ntmps92
  go_wp2
  rw [← HZ.out]
  go_cut [7] from 8 to 19 (fun v7 wx => ∃ C, v7 = .pointer (some ⟨C, 0, none⟩) ∧ Fd w w.heap.size wx L f' nx C d)
  case first =>
    go_region_held3 (fun w' => w'.cell? ⟨L.lb, 4, none⟩ = some (.iface L.gi.ty (.pointer (some ⟨L.gi.lb, 0, none⟩))) ∧ w'.cell? ⟨L.tb, k * 4, none⟩ = some (.int .i64 (f.nd k : Nat))) (first | exact ⟨c4, r0⟩ | go_keep) (first
      | ((first | (with_reducible refine (cI _ ((Wrote.refl _ _).drew)).mono ?_) | (with_reducible refine (cI _ (((Wrote.refl _ _).drew).alloc _)).mono ?_) | (with_reducible refine (cI _ (((Wrote.refl _ _).alloc _).drew)).mono ?_)); intro e w2 hq; unfold LmPost at hq; obtain ⟨rfl, hA, hW⟩ := hq; dsimp only [Dd.val]; have c4 := hA.raw.cell4; unfold Ip.val at c4; have r0 := hA.raw.cx0 HK.out; rw [HH.out.1] at r0; first
        | (have hT := Fd.call (C := Z.heap.size) HE.out.1 (Fd.after (Fr.did HE.out.2.2 rfl) ((Wrote.refl _ _).drew)) hA hW; obtain ⟨p0, p1, p2, p3⟩ := hT.cell; obtain ⟨y0, y1, y2, y3⟩ := hT.frz; have HT := Lib.hid hT; clear hT)
        | (have hT := Fd.call (C := Z.heap.size) HE.out.1 (Fr.did (HE.out.2.2.after ((Wrote.refl _ _).drew)) rfl) hA hW; obtain ⟨p0, p1, p2, p3⟩ := hT.cell; obtain ⟨y0, y1, y2, y3⟩ := hT.frz; have HT := Lib.hid hT; clear hT)
        | have HT := Lib.hid (Fr.call HE.out.1 (HE.out.2.2.after ((Wrote.refl _ _).drew)) hA hW)))
    all_goals
      go_wp2
      go_meet
      first
        | exact ⟨_, rfl, HT.out.keep HE.out.1 d⟩
        | exact ⟨_, rfl, HT.out.laid d⟩
  case rest =>
    obtain ⟨C, rfl, hK⟩ := hcut
    obtain ⟨p0, p1, p2, p3⟩ := hK.cell
    obtain ⟨v0, v1, v2, v3⟩ := hK.fr.cell
    obtain ⟨x0, x1, x2, x3⟩ := hK.fr.frz
    by_cases e1 : d.ev = 1
    · have e2 := HH.out.2
      rw [if_pos e1] at e2
      rw [e1] at p0
      have cN := hK.fr.lk.raw.cx2 HK.out
      have zN := hK.fr.lk.raw.cxz (k * 4 + 2)
      obtain ⟨hN, hW⟩ := hK.fr.lk.setN k (.func (.func 97) #[] #[])
      have hK2 := hK.call HE.out.1 hN (lf_t hK.fr.lk hW)
      rw [← e2] at hK2
      clear e2
      obtain ⟨P0, P1, P2, P3⟩ := hK2.cell
      obtain ⟨V0, V1, V2, V3⟩ := hK2.fr.cell
      obtain ⟨X0, X1, X2, X3⟩ := hK2.fr.frz
      have HT := Lib.hid hK2
      clear hK hK2 hN hW
      go_wp2
      refine bodyPost_ret (v := Dd.val ⟨0, false, d.enq, false⟩) (results_cell_row rfl _ _ w.heap.size 71 _ (0, 0) _ rfl (set4 HT.out.fr.res rfl _ _ _ _) Tryz.underlying71 rfl i_did) rfl (HT.out.fr.told HE.out.1 ⟨0, false, d.enq, false⟩)
    · have e2 := HH.out.2
      rw [if_neg e1] at e2
      rw [← e2] at hK
      clear e2
      have b1 : (d.ev == 1) = false := by rw [← Bool.not_eq_true]; exact fun q => e1 (by simpa using q)
      have HT := Lib.hid hK
      clear hK
      go_wp2
      refine bodyPost_ret (v := Dd.val ⟨0, false, d.enq, false⟩) (results_cell_row rfl _ _ w.heap.size 71 _ (0, 0) _ rfl (set4 HT.out.fr.res rfl _ _ _ _) Tryz.underlying71 rfl i_did) rfl (HT.out.fr.told HE.out.1 ⟨0, false, d.enq, false⟩)
end Go.Proofs.YtkmikkjjnbikdaaGreat
