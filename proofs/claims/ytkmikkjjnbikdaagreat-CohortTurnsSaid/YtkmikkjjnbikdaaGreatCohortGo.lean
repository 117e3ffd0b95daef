/- The contract of a lock of locks' goOn: what comes next is done, and what comes next behind it is what it should be. -/
import Derived.Test.YtkmikkjjnbikdaaGreatCohCalls
import Derived.Test.YtkmikkjjnbikdaaGreatCohLooks
import Derived.Test.YtkmikkjjnbikdaaGreatCohArrives
import Derived.Test.YtkmikkjjnbikdaaGreatCohLeads
import Derived.Test.YtkmikkjjnbikdaaGreatCohCounts
import Derived.Test.YtkmikkjjnbikdaaGreatCohAsks
import Derived.Test.YtkmikkjjnbikdaaGreatCohKeeps
import Derived.Test.YtkmikkjjnbikdaaGreatCohEnds
import Derived.Test.YtkmikkjjnbikdaaGreatCohYields
import Derived.Test.YtkmikkjjnbikdaaGreatCohLeaves
namespace Go.Proofs.YtkmikkjjnbikdaaGreat
open Go.RowKit Go.BigFrame
set_option linter.unusedVariables false
set_option maxRecDepth 100000
set_option maxHeartbeats 4000000

/-! ### what comes next -/
/-- the function that a context comes to next: x what it does, p its phase, l what its node's lock knows of it -/
def nxN (x p l : Int) : Nat :=
  if x = 1 then (if p = 0 then (if l = 0 then 80 else 86) else if p = 1 then 88 else if p = 2 then 92 else 97)
  else if x = 3 then (if p = 0 then 91 else if p = 1 then 96 else if p = 2 then 102 else if p = 3 then 95 else if p = 4 then 101 else 106)
  else if x = 2 then 91 else 80
def nxF (f : FL) (t : Nat) : Value := .func (.func (nxN (f.s.st t) (f.ph t) ((f.Lc (f.nd t)).s.st (f.own t)))) #[] #[]
theorem fin_off (s : SS) {k j : Nat} (ev : Int) (h : j ≠ k) : (s.fin (k : Nat) ev).st j = s.st j := by
  unfold SS.fin
  split
  · unfold SS.set; exact upd_other _ _ (by simpa using h)
  · rfl
theorem lock_off (s : SS) {k j : Nat} (d : Int) (h : j ≠ k) : (s.lock (k : Nat) d).st j = s.st j := by
  unfold SS.lock
  split
  · unfold SS.set; exact upd_other _ _ (by simpa using h)
  · rfl
theorem turn_off (s : SS) {k j : Nat} (x : Int) (h : j ≠ k) : (s.turn (k : Nat) x).st j = s.st j := by
  unfold SS.turn
  split
  · unfold SS.set; exact upd_other _ _ (by simpa using h)
  · rfl
theorem lk_s (f : FL) (c : Nat) : (f.lk c).s = (f.Lc c).s := Inn.on_s _
theorem ask_off (f : FL) (k : Nat) {j : Nat} (h : j ≠ f.own k) : (f.ask k).s.st j = (f.Lc (f.nd k)).s.st j := by
  unfold FL.ask
  split
  · rw [Inn.lock_s, lk_s]; exact lock_off _ _ h
  · rw [lk_s]
theorem upd_loc {g : Nat → Inn} {c c' j : Nat} {y : Inn} (h : c' = c → y.s.st j = (g c).s.st j) : ((upd g c y) c').s.st j = (g c').s.st j := by
  by_cases e : c' = c
  · subst e; rw [upd_same]; exact h rfl
  · rw [upd_other _ _ e]
/-- what a step of k turns of the nodes' locks is k's -/
theorem mid_loc (f : FL) (L : Lp) (k : Nat) (u : Int) {c j : Nat} (h : c ≠ f.nd k ∨ j ≠ f.own k) : ((f.mid L k u).Lc c).s.st j = (f.Lc c).s.st j := by
  have hj : c = f.nd k → j ≠ f.own k := fun e => h.resolve_left fun q => q e
  unfold FL.mid FL.acq FL.rel
  simp only [Int.toNat_natCast]
  repeat' split
  all_goals first
    | rfl
    | exact upd_loc fun e => by rw [Inn.step_s, fin_off _ _ (hj e)]; first | exact ask_off f k (hj e) | rw [lk_s]
    | exact upd_loc fun e => by rw [Inn.turn_s, turn_off _ _ (hj e)]
theorem mid_ph (f : FL) (L : Lp) (k : Nat) (u : Int) {t : Nat} (h : t ≠ k) : (f.mid L k u).ph t = f.ph t := by
  unfold FL.mid FL.acq FL.rel
  simp only [Int.toNat_natCast]
  repeat' split
  all_goals first | rfl | exact upd_other _ _ h
theorem step_far {f : FL} {L : Lp} {ga : Nat} {la : Nat → Nat} {H : Nat → Option Nat} {V : Nat → List Nat} {gg : Option Nat} {Wg : List Nat} (hJ : OrdJ f ga la H V gg Wg) {k t : Nat} (hk : k < f.s.n) (ht : t < f.s.n) (h : t ≠ k) (u : Int) : nxF (f.step L k u) t = nxF f t := by
  obtain ⟨e1, e2, e3, e4⟩ := f.mid_s L k u
  have a1 : (f.step L k u).s.st t = f.s.st t := fin_off _ _ h
  have a2 : (f.step L k u).ph t = f.ph t := by
    show (if endB f.s k (f.did L k u).ev = true then upd (f.mid L k u).ph (k : Int).toNat 0 else (f.mid L k u).ph) t = _
    split
    · rw [upd_other _ _ (by simpa using h)]; exact mid_ph f L k u h
    · exact mid_ph f L k u h
  have a3 : (f.step L k u).nd = f.nd := e2
  have a4 : (f.step L k u).own = f.own := e3
  have a5 : ((f.step L k u).Lc (f.nd t)).s.st (f.own t) = (f.Lc (f.nd t)).s.st (f.own t) := by
    refine mid_loc f L k u ?_
    by_cases q : f.nd t = f.nd k
    · exact .inr fun e => h (hJ.cor.inj t k ht hk q e)
    · exact .inl q
  unfold nxF
  rw [a1, a2, a3, a4, a5]
section
variable {w : World} {L : Lp} {f : FL} {ga : Nat} {la : Nat → Nat} {H : Nat → Option Nat} {V : Nat → List Nat} {gg : Option Nat} {Wg : List Nat}
theorem go_fin {f1 : FL} {nx1 : Nat → Value} {v : Value} {k : Nat} {e : Ending} {w' : World} (hJ : OrdJ f ga la H V gg Wg) (hk : k < f.s.n) (hp : LmPost w L f1 nx1 v e w') (hv : v = (f.did L k k).val) (hm : ∃ p, f.mid L k k = { f1 with ph := p })
    (hn : ∀ t, t ≠ k → nx1 t = nxF f t) (hn1 : nx1 k = nxF (f.step L k k) k) : LmPost w L (f.mid L k k) (nxF (f.step L k k)) (f.did L k k).val e w' := by
  obtain ⟨rfl, h1, h2⟩ := hp
  obtain ⟨p, hm⟩ := hm
  have hs : f1.s = f.s := by have := (f.mid_s L k k).1; rw [hm] at this; exact this
  refine ⟨by rw [hv], ?_, h2⟩
  rw [hm]
  refine (h1.same fun t ht => ?_).phs p
  rw [hs] at ht
  by_cases q : t = k
  · subst q; exact hn1
  · rw [hn t q, step_far hJ hk ht q]
/-- what comes next is called -/
theorem go_any {F : Nat} {f' : FL} {nx nx' : Nat → Value} {d : Dd} (hF : ∀ (args : Array Value) (w : World), (callFunc F args).run Tryz.prog w = .ok (.enter F args) w) (h : LkM w L f nx) {k : Nat} (hk : k < f.s.n) (u : Int) (hn : nx k = .func (.func F) #[] #[])
    (cF : ∀ W, LkM W L f nx → Calls Tryz.prog F #[.pointer (some ⟨L.lb, 0, none⟩), .pointer (some ⟨L.tb, k * 4, none⟩), .int .i64 u] W (LmPost W L f' nx' d.val)) :
    Calls Tryz.prog 43 #[.pointer (some ⟨L.lb, 0, none⟩), .int .i64 (k : Nat), .int .i64 u] w (LmPost w L f' nx' d.val) := by
  have hFr := Fr.start h
  obtain ⟨Z, hZ⟩ : ∃ Z, Z = w.alloc (.cells #[.int .i64 0, .bool false, .bool false, .bool false] 71) := ⟨_, rfl⟩
  rw [← hZ] at hFr
  have c13 := hFr.lk.raw.cell13
  have cN := hFr.lk.raw.cx2 hk
  rw [hn] at cN
  rw [hZ] at c13
  have cF := cF _ hFr.lk
  have hkI : (k : Int) < f.s.n := by omega
  have hn64 := h.raw.seat.n2
  have HE := Lib.hid (And.intro h (And.intro hk hFr))
  have HZ := Lib.hid hZ
  rw [hZ] at cN
  clear h hFr hn hZ
  go_enter Tryz.func43, Tryz.ntmps43
  go_wp2_with ((rw [← HZ.out]; with_reducible refine cF.mono ?_); intro e w2 hq; unfold LmPost at hq; obtain ⟨rfl, hA, hW⟩ := hq; dsimp only [Dd.val]; have h3 := Fr.call HE.out.1 HE.out.2.2 hA hW; obtain ⟨v0, v1, v2, v3⟩ := h3.cell; obtain ⟨x0, x1, x2, x3⟩ := h3.frz; have HU := Lib.hid h3; clear h3 hA hW)
  refine bodyPost_ret (v := Dd.val d) (results_cell_row rfl _ _ w.heap.size 71 _ (0, 0) _ rfl (set4 HU.out.res rfl _ _ _ _) Tryz.underlying71 rfl i_did) rfl (HU.out.told HE.out.1 d)
theorem en_calls (args : Array Value) (w : World) : (callFunc 80 args).run Tryz.prog w = .ok (.enter 80 args) w := by kernel_rfl
theorem en_queues (args : Array Value) (w : World) : (callFunc 86 args).run Tryz.prog w = .ok (.enter 86 args) w := by kernel_rfl
theorem en_looks (args : Array Value) (w : World) : (callFunc 88 args).run Tryz.prog w = .ok (.enter 88 args) w := by kernel_rfl
theorem en_arrives (args : Array Value) (w : World) : (callFunc 92 args).run Tryz.prog w = .ok (.enter 92 args) w := by kernel_rfl
theorem en_leads (args : Array Value) (w : World) : (callFunc 97 args).run Tryz.prog w = .ok (.enter 97 args) w := by kernel_rfl
theorem en_counts (args : Array Value) (w : World) : (callFunc 91 args).run Tryz.prog w = .ok (.enter 91 args) w := by kernel_rfl
theorem en_asks (args : Array Value) (w : World) : (callFunc 96 args).run Tryz.prog w = .ok (.enter 96 args) w := by kernel_rfl
theorem en_keeps (args : Array Value) (w : World) : (callFunc 102 args).run Tryz.prog w = .ok (.enter 102 args) w := by kernel_rfl
theorem en_ends (args : Array Value) (w : World) : (callFunc 95 args).run Tryz.prog w = .ok (.enter 95 args) w := by kernel_rfl
theorem en_yields (args : Array Value) (w : World) : (callFunc 101 args).run Tryz.prog w = .ok (.enter 101 args) w := by kernel_rfl
theorem en_leaves (args : Array Value) (w : World) : (callFunc 106 args).run Tryz.prog w = .ok (.enter 106 args) w := by kernel_rfl
end
end Go.Proofs.YtkmikkjjnbikdaaGreat
