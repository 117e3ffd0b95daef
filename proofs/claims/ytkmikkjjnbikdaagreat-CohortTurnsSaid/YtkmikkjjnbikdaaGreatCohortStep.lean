/- A whole step of a lock of locks: what homed.Step does of it, and its own Step. -/
import Derived.Test.YtkmikkjjnbikdaaGreatCohortGoes
namespace Go.Proofs.YtkmikkjjnbikdaaGreat
open Go.RowKit Go.BigFrame
set_option linter.unusedVariables false
set_option maxRecDepth 100000
set_option maxHeartbeats 4000000

section
variable {w X Y : World} {B C : Nat} {L : Lp} {f g f0 : FL} {nx nx' nx0 : Nat → Value} {d : Dd}
theorem Fd.ends {s' : SS} (h0 : LkM w L f0 nx0) (h : Fd w B X L g nx C d) (hS : SeatAt Y L.p L.b s') (hn : s'.n = g.s.n) (k : Wrote (One L.b) X Y) : Fd w B Y L { g with s := s' } nx C d :=
  h.call h0 (h.fr.lk.seats hS hn k) (lf_b h.fr.lk k)
theorem Fd.phs (h : Fd w B X L f nx C d) (ph : Nat → Int) : Fd w B X L { f with ph := ph } nx C d := ⟨⟨h.fr.lk.phs ph, h.fr.wr, h.fr.res, h.fr.new⟩, h.did, h.far, h.ne⟩
end
theorem hs_start {w : World} {L : Lp} {f : FL} {nx : Nat → Value} (h : LkM w L f nx) (cs : Array Value) :
    Fd w (w.heap.size + 1) (((w.alloc (.cells cs 113)).alloc (.cells #[.int .i64 0, .bool false, .bool false, .bool false] 71)).alloc (.cells #[.int .i64 0, .bool false, .bool false, .bool false] 71)) L f nx (w.heap.size + 1 + 1) Dd.no ∧
    (((w.alloc (.cells cs 113)).alloc (.cells #[.int .i64 0, .bool false, .bool false, .bool false] 71)).alloc (.cells #[.int .i64 0, .bool false, .bool false, .bool false] 71)).heap[w.heap.size]? = some (.cells cs 113 (0, 0)) := by
  have e1 : (w.alloc (.cells cs 113)).heap.size = w.heap.size + 1 := Go.Deep.nblk_alloc _ _
  have e2 : ((w.alloc (.cells cs 113)).alloc (.cells #[.int .i64 0, .bool false, .bool false, .bool false] 71)).heap.size = w.heap.size + 1 + 1 := by rw [Go.Deep.nblk_alloc, e1]
  have k : Wrote Nil w (((w.alloc (.cells cs 113)).alloc (.cells #[.int .i64 0, .bool false, .bool false, .bool false] 71)).alloc (.cells #[.int .i64 0, .bool false, .bool false, .bool false] 71)) := (((Wrote.refl _ w).alloc _).alloc _).alloc _
  refine ⟨⟨⟨h.after k, k.mono fun _ _ e => e.elim, ?_, Nat.le_succ _⟩, ?_, by omega, by omega⟩, ?_⟩
  · rw [Go.Deep.blk_alloc_lt _ _ _ (by rw [e2]; omega), ← e1, Go.Deep.blk_alloc_new]; rfl
  · rw [← e2, Go.Deep.blk_alloc_new]; rfl
  · rw [Go.Deep.blk_alloc_lt _ _ _ (by rw [e2]; omega), Go.Deep.blk_alloc_lt _ _ _ (by rw [e1]; omega), Go.Deep.blk_alloc_new]
section
variable {w : World} {L : Lp} {f : FL} {ga : Nat} {la : Nat → Nat} {H : Nat → Option Nat} {V : Nat → List Nat} {gg : Option Nat} {Wg : List Nat}
theorem hs_busy (h : LkM w L f (nxF f)) (hJ : OrdJ f ga la H V gg Wg) {k : Nat} (hk : k < f.s.n) (hs : f.s.st k = 1 ∨ f.s.st k = 3) (hD : f.ps.D.length < 4611686018427387904) :
    Calls Tryz.prog 42 #[.pointer (some ⟨L.p, 0, none⟩), .int .i64 (k : Nat), .int .i64 (k : Nat), .agg #[Value.func (.func 43) #[.pointer (some ⟨L.lb, 0, none⟩)] #[], Value.func (.func 43) #[.pointer (some ⟨L.lb, 0, none⟩)] #[], Value.nilFunc]] w (LmPost w L (f.step L k k) (nxF (f.step L k k)) (f.did L k k).val) := by
  obtain ⟨hF, hB⟩ := hs_start h #[Value.func (.func 43) #[.pointer (some ⟨L.lb, 0, none⟩)] #[], Value.func (.func 43) #[.pointer (some ⟨L.lb, 0, none⟩)] #[], Value.nilFunc]
  obtain ⟨Z, hZ⟩ : ∃ Z, Z = ((w.alloc (.cells #[Value.func (.func 43) #[.pointer (some ⟨L.lb, 0, none⟩)] #[], Value.func (.func 43) #[.pointer (some ⟨L.lb, 0, none⟩)] #[], Value.nilFunc] 113)).alloc (.cells #[.int .i64 0, .bool false, .bool false, .bool false] 71)).alloc (.cells #[.int .i64 0, .bool false, .bool false, .bool false] 71) := ⟨_, rfl⟩
  rw [← hZ] at hF hB
  have b0 : Z.cell? ⟨w.heap.size, 0, none⟩ = some (Value.func (.func 43) #[.pointer (some ⟨L.lb, 0, none⟩)] #[]) := (blk_cell hB 0).trans rfl
  have b1 : Z.cell? ⟨w.heap.size, 1, none⟩ = some (Value.func (.func 43) #[.pointer (some ⟨L.lb, 0, none⟩)] #[]) := (blk_cell hB 1).trans rfl
  have cS := se_state hF.fr.lk.raw.seat (k : Int)
  obtain ⟨v0, v1, v2, v3⟩ := hF.fr.cell
  obtain ⟨x0, x1, x2, x3⟩ := hF.fr.frz
  obtain ⟨p0, p1, p2, p3⟩ := hF.cell
  have hn := h.raw.seat.n2
  have ht : (0 : Int) ≤ (k : Int) ∧ (k : Int) < f.s.n := by omega
  have eS : f.s.stI (k : Int) = f.s.st k := by unfold SS.stI; rw [if_pos ht, Int.toNat_natCast]
  rw [eS] at cS
  have es := (f.mid_s L k k).1
  have cA := fl_go hF.fr.lk hJ hk hs hD
  generalize nxF (f.step L k k) = nx' at *
  obtain ⟨P, hP⟩ : ∃ P, f.step L k k = { f.mid L k k with s := f.s.fin k (f.did L k k).ev, ph := P } := ⟨_, rfl⟩
  rw [hP]
  clear hP
  generalize f.mid L k k = g at *
  generalize f.did L k k = d at *
  have HE := Lib.hid (And.intro h (And.intro hF es))
  have HZ := Lib.hid hZ
  clear h hF eS hB es hZ hJ ht
  rcases hs with hs | hs
  all_goals
    rw [hs] at cS
    clear hs
    generalize f.s.n = n at *
    go_enter Tryz.func42, Tryz.ntmps42
    go_wp2_with (first
      | (go_at_call 21; rw [← HZ.out]; (with_reducible refine cS.mono ?_); rintro e w' ⟨rfl, rfl⟩)
      | (go_at_call 43; (with_reducible refine cA.mono ?_); intro e w2 hq; unfold LmPost at hq; obtain ⟨rfl, hA, hW⟩ := hq; dsimp only [Dd.val]; have hA3 := HE.out.2.1.call HE.out.1 hA hW; obtain ⟨p0, p1, p2, p3⟩ := hA3.cell; obtain ⟨y0, y1, y2, y3⟩ := hA3.frz; have hK := hA3.keep HE.out.1 d; have cE := se_end hK.fr.lk.raw.seat (k : Int) d.ev; rw [HE.out.2.2] at cE; have HK := Lib.hid hK; clear hA hA3 hK hW)
      | (go_at_call 62; (with_reducible refine cE.mono ?_); intro e w3 hq; unfold SeatPost at hq; obtain ⟨rfl, hS, hW⟩ := hq; have hY := (HK.out.ends HE.out.1 hS (by rw [HE.out.2.2]; exact f.s.fin_n _ _) hW).phs P; obtain ⟨e0, e1, e2, e3⟩ := hY.cell; obtain ⟨v0, v1, v2, v3⟩ := hY.fr.cell; obtain ⟨x0, x1, x2, x3⟩ := hY.fr.frz; have HT := Lib.hid hY; clear hY hS hW))
    refine bodyPost_ret (v := Dd.val d) (results_cell_row rfl _ _ (w.heap.size + 1) 71 _ (0, 0) _ rfl (set4 HT.out.fr.res rfl _ _ _ _) Tryz.underlying71 rfl i_did) rfl (HT.out.fr.told HE.out.1 d)
theorem hs_idle (h : LkM w L f (nxF f)) (t u : Int) (h1 : f.s.stI t ≠ 1) (h3 : f.s.stI t ≠ 3) (h4 : f.s.stI t ≠ 4) (hf : f.s.fin t 0 = f.s) :
    Calls Tryz.prog 42 #[.pointer (some ⟨L.p, 0, none⟩), .int .i64 t, .int .i64 u, .agg #[Value.func (.func 43) #[.pointer (some ⟨L.lb, 0, none⟩)] #[], Value.func (.func 43) #[.pointer (some ⟨L.lb, 0, none⟩)] #[], Value.nilFunc]] w (LmPost w L f (nxF f) Dd.no.val) := by
  obtain ⟨hF, hB⟩ := hs_start h #[Value.func (.func 43) #[.pointer (some ⟨L.lb, 0, none⟩)] #[], Value.func (.func 43) #[.pointer (some ⟨L.lb, 0, none⟩)] #[], Value.nilFunc]
  obtain ⟨Z, hZ⟩ : ∃ Z, Z = ((w.alloc (.cells #[Value.func (.func 43) #[.pointer (some ⟨L.lb, 0, none⟩)] #[], Value.func (.func 43) #[.pointer (some ⟨L.lb, 0, none⟩)] #[], Value.nilFunc] 113)).alloc (.cells #[.int .i64 0, .bool false, .bool false, .bool false] 71)).alloc (.cells #[.int .i64 0, .bool false, .bool false, .bool false] 71) := ⟨_, rfl⟩
  rw [← hZ] at hF hB
  have cS := se_state hF.fr.lk.raw.seat t
  obtain ⟨v0, v1, v2, v3⟩ := hF.fr.cell
  obtain ⟨x0, x1, x2, x3⟩ := hF.fr.frz
  obtain ⟨p0, p1, p2, p3⟩ := hF.cell
  have cE := se_end hF.fr.lk.raw.seat t Dd.no.ev
  rw [show f.s.fin t Dd.no.ev = f.s from hf] at cE
  generalize nxF f = nx at *
  have HE := Lib.hid (And.intro h hF)
  have HZ := Lib.hid hZ
  generalize f.s.stI t = y at *
  clear h hF hB hZ hf
  go_enter Tryz.func42, Tryz.ntmps42
  go_wp2_with (first
    | (go_at_call 21; rw [← HZ.out]; (with_reducible refine cS.mono ?_); rintro e w' ⟨rfl, rfl⟩)
    | (go_at_call 62; (with_reducible refine cE.mono ?_); intro e w3 hq; unfold SeatPost at hq; obtain ⟨rfl, hS, hW⟩ := hq; have hY := HE.out.2.ends HE.out.1 hS rfl hW; obtain ⟨e0, e1, e2, e3⟩ := hY.cell; obtain ⟨v0, v1, v2, v3⟩ := hY.fr.cell; obtain ⟨x0, x1, x2, x3⟩ := hY.fr.frz; have HT := Lib.hid hY; clear hY hS hW))
  refine bodyPost_ret (v := Dd.val Dd.no) (results_cell_row rfl _ _ (w.heap.size + 1) 71 _ (0, 0) _ rfl (set4 HT.out.fr.res rfl _ _ _ _) Tryz.underlying71 rfl i_did) rfl (HT.out.fr.told HE.out.1 Dd.no)
/-- a lock that is used over its port, in which all is as it should be -/
structure LkAt (w : World) (L : Lp) (f : FL) : Prop where
  lk : LkM w L f (nxF f)
  inv : ∃ H V gg Wg, OrdJ f f.ga f.la H V gg Wg
  a1 : L.a1 = 0
theorem FL.step_ga (f : FL) (L : Lp) (t u : Int) : (f.step L t u).ga = f.ga ∧ (f.step L t u).la = f.la := by
  show (f.mid L t u).ga = _ ∧ (f.mid L t u).la = _
  unfold FL.mid FL.acq FL.rel
  repeat' split
  all_goals exact ⟨rfl, rfl⟩
theorem LkAt.steps {w w' : World} (h : LkAt w L f) (t : Int) (hm : LkM w' L (f.step L t t) (nxF (f.step L t t))) : LkAt w' L (f.step L t t) := by
  obtain ⟨H, V, gg, Wg, hJ⟩ := h.inv
  obtain ⟨H', V', gg', Wg', hJ'⟩ := hJ.step h.a1 t
  refine ⟨hm, ⟨H', V', gg', Wg', ?_⟩, h.a1⟩
  rw [(f.step_ga L t t).1, (f.step_ga L t t).2]
  exact hJ'
theorem hs_step (h : LkAt w L f) (t : Int) (hD : f.ps.D.length < 4611686018427387904) :
    Calls Tryz.prog 42 #[.pointer (some ⟨L.p, 0, none⟩), .int .i64 t, .int .i64 t, .agg #[Value.func (.func 43) #[.pointer (some ⟨L.lb, 0, none⟩)] #[], Value.func (.func 43) #[.pointer (some ⟨L.lb, 0, none⟩)] #[], Value.nilFunc]] w (LmPost w L (f.step L t t) (nxF (f.step L t t)) (f.did L t t).val) := by
  obtain ⟨H, V, gg, Wg, hJ⟩ := h.inv
  by_cases ht : 0 ≤ t ∧ t < f.s.n
  · obtain ⟨k, rfl⟩ := Int.eq_ofNat_of_zero_le ht.1
    have hk : k < f.s.n := by omega
    have eS : f.s.stI (k : Int) = f.s.st k := by unfold SS.stI; rw [if_pos ht, Int.toNat_natCast]
    by_cases s1 : f.s.st k = 1
    · exact hs_busy h.lk hJ hk (.inl s1) hD
    by_cases s3 : f.s.st k = 3
    · exact hs_busy h.lk hJ hk (.inr s3) hD
    have s4 : f.s.st k ≠ 4 := by have hx := hJ.cor.cx k hk; cases hx <;> omega
    obtain ⟨e1, e2⟩ := OrdJ.at_idle (L := L) (u := (k : Int)) hk s1 s3 s4
    rw [e1, e2]
    refine hs_idle h.lk k k (by rw [eS]; exact s1) (by rw [eS]; exact s3) (by rw [eS]; exact s4) (fin_none' ?_).1
    unfold behindI
    rw [if_neg (by omega), if_neg (by omega), if_neg (by omega), if_neg (by omega)]
  · obtain ⟨e1, e2⟩ := OrdJ.at_none (L := L) (u := t) ht
    rw [e1, e2]
    have eS : f.s.stI t = 0 := if_neg ht
    refine hs_idle h.lk t t (by rw [eS]; decide) (by rw [eS]; decide) (by rw [eS]; decide) ?_
    unfold SS.fin endO
    rw [if_neg ht]
abbrev LkPost (w : World) (L : Lp) (f : FL) (v : Value) (e : Ending) (w' : World) : Prop := e = .returned v ∧ LkAt w' L f ∧ Wrote (LF L) w w'
theorem fl_step (h : LkAt w L f) (t x : Int) (hD : f.ps.D.length < 4611686018427387904) :
    Calls Tryz.prog 20 #[.pointer (some ⟨L.lb, 0, none⟩), .int .i64 t, .int .i64 t, .int .i64 x] w (LkPost w L (f.step L t t) (f.did L t t).val) := by
  have hst := fun w' hm => h.steps (w' := w') t hm
  have hF := Fr.start h.lk
  obtain ⟨Z, hZ⟩ : ∃ Z, Z = w.alloc (.cells #[.int .i64 0, .bool false, .bool false, .bool false] 71) := ⟨_, rfl⟩
  rw [← hZ] at hF
  have cM := hs_step ⟨hF.lk, h.inv, h.a1⟩ t hD
  have c0 := hF.lk.raw.cell0
  rw [hZ] at c0
  generalize nxF (f.step L t t) = nx' at *
  generalize f.step L t t = g at *
  generalize f.did L t t = d at *
  have HE := Lib.hid (And.intro h.lk (And.intro hF hst))
  have HZ := Lib.hid hZ
  clear h hF hZ hst
  go_enter Tryz.func20, Tryz.ntmps20
  go_wp2_with (first
    | (go_at_call 42; rw [← HZ.out]; (with_reducible refine cM.mono ?_); intro e w2 hq; unfold LmPost at hq; obtain ⟨rfl, hA, hW⟩ := hq; dsimp only [Dd.val]; have hA3 := Fr.call HE.out.1 HE.out.2.1 hA hW; obtain ⟨v0, v1, v2, v3⟩ := hA3.cell; obtain ⟨x0, x1, x2, x3⟩ := hA3.frz; have HT := Lib.hid hA3; clear hA hA3 hW))
  refine bodyPost_ret (v := Dd.val d) (results_cell_row rfl _ _ w.heap.size 71 _ (0, 0) _ rfl (set4 HT.out.res rfl _ _ _ _) Tryz.underlying71 rfl i_did) rfl ?_
  have hT := HT.out.told HE.out.1 d
  exact ⟨hT.1, HE.out.2.2 _ hT.2.1, hT.2.2⟩
end
end Go.Proofs.YtkmikkjjnbikdaaGreat
