/- The contracts of a lock of locks' steps: leave. -/
import Derived.Test.YtkmikkjjnbikdaaGreatCohortDo
import Derived.Deep.Cut
import Derived.Laws.EntriesVeiled
import Derived.Deep.CutRange
namespace Go.Proofs.YtkmikkjjnbikdaaGreat
open Go.RowKit Go.BigFrame
set_option linter.unusedVariables false
set_option maxRecDepth 100000
set_option maxHeartbeats 8000000

theorem fl_leave {w : World} {L : Lp} {f : FL} {nx : Nat → Value} (h : LkM w L f nx) {k : Nat} (hk : k < f.s.n) :
    Calls Tryz.prog 105 #[.pointer (some ⟨L.lb, 0, none⟩), .pointer (some ⟨L.tb, k * 4, none⟩)] w
      (LmPost w L { f with Lc := upd f.Lc (f.nd k) ((f.Lc (f.nd k)).turn (f.own k : Nat) 3) } (upd nx k (.func (.func 106) #[] #[])) (.tuple #[])) := by
  obtain ⟨n1, n2⟩ := h.raw.nod k hk
  have r1 := h.raw.cx1 hk
  have cL := fun W (q : Wrote Nil w W) => fl_local (h.after q) hk
  unfold Ip.val at cL
  have cI := fun W (q : Wrote Nil w W) => in_unlock ((h.after q).raw.loc _ n1 n2) (f.own k : Nat)
  have vL := fun m => ((h.after ((Wrote.refl _ w).drewN m)).raw.loc _ n1 n2).via_unlock
  have nL := (h.raw.loc _ n1 n2).nil_unlock
  have HE := Lib.hid (And.intro h (And.intro hk (And.intro n1 n2)))
  clear h
  go_enter Tryz.func105, Tryz.ntmps105
  go_wp2
  go_region_held3 (fun w' => w'.cell? ⟨L.tb, k * 4 + 1, none⟩ = some (.int .i64 (f.own k : Nat))) (first | exact r1 | go_keep) (first
    | (go_at_call 85; (first | (with_reducible refine (cL _ ((Wrote.refl _ _).drew)).mono ?_) | (with_reducible refine (cL _ (((Wrote.refl _ _).alloc _).drew)).mono ?_)); rintro e w1 ⟨rfl, n, rfl⟩)
    | (go_at_call 19; (with_reducible refine (cI _ ((Wrote.refl _ _).drewN _)).mono ?_); intro e w2 hq; unfold InPost at hq; obtain ⟨rfl, hI, hW⟩ := hq; have hX2 := HE.out.1.after ((Wrote.refl _ w).drewN (1 + n)); have hG := hX2.locl HE.out.2.2.1 HE.out.2.2.2 hI hW; have r1 := hG.raw.cx1 hk; have hW2 := ((Wrote.refl (LF L) w).drewN (1 + n)).trans (lf_l hX2 HE.out.2.2.1 HE.out.2.2.2 hW) fun _ _ e => e; have HX := Lib.hid (And.intro hG hW2); clear hX2 hG hI hW hW2))
  have cN := HX.out.1.raw.cx2 hk
  have zN := HX.out.1.raw.cxz (k * 4 + 2)
  have hN := HX.out.1.setN k (.func (.func 106) #[] #[])
  have HN := Lib.hid (And.intro hN.1 (HX.out.2.trans (lf_t HX.out.1 hN.2) fun _ _ e => e))
  clear hN
  go_wp2
  go_end0
  exact ⟨rfl, HN.out.1, HN.out.2⟩
end Go.Proofs.YtkmikkjjnbikdaaGreat
