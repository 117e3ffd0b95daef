/- How many of one node were granted in a row, as a law keeps it: what each step does to it; the queues with it; no walk. -/
import Derived.Test.YtkmikkjjnbikdaaGreatCohortQue
namespace Go.Proofs.YtkmikkjjnbikdaaGreat
set_option linter.unusedVariables false
set_option maxRecDepth 100000

/-- counted already: who has the lock, or gives it back and hasn't passed it yet -/
def Ctd (f : FL) (t : Nat) : Prop := f.s.st t = 2 ∨ (f.s.st t = 3 ∧ f.ph t ≤ 3)
/-- what is known of a node whose pass isn't 0: it is the one that is counted, and how many were granted -/
def CntAt (f : FL) (row node : Int) (c : Nat) : Prop := node = c ∧ ((∃ t, t < f.s.n ∧ f.nd t = c ∧ Ctd f t) → row = wP f.ps c) ∧ ((¬ ∃ t, t < f.s.n ∧ f.nd t = c ∧ Ctd f t) → row + 1 = wP f.ps c)
def Cnt (f : FL) (row node : Int) : Prop := ∀ c : Nat, c < 8 → 1 ≤ wP f.ps c → CntAt f row node c
/-- what a step tells of them -/
inductive StepN (f f' : FL) (row node : Int) (c : Nat) (d : Dd) : Prop where
  | same (h : d.ev ≠ 1) (e : Cnt f' row node) : StepN f f' row node c d
  | lead (h : d = ⟨1, false, false, true⟩) (e : Cnt f' 1 c) : StepN f f' row node c d
  | next (h : d = ⟨1, false, false, false⟩) (e1 : node = c) (e2 : 0 ≤ row ∧ row + 1 ≤ f.bud) (e : Cnt f' (row + 1) node) : StepN f f' row node c d
section
variable {f : FL} {L : Lp} {ga : Nat} {la : Nat → Nat} {H : Nat → Option Nat} {V : Nat → List Nat} {gg : Option Nat} {Wg : List Nat}
/-- what a step makes of the passes -/
theorem wP_step (h : OrdJ f ga la H V gg Wg) (h1 : L.a1 = 0) {k : Nat} (hk : k < f.s.n) :
    wP (f.step L k k).ps = if f.s.st k = 1 ∧ f.ph k = 3 then upd (wP f.ps) (f.nd k) 1 else if f.s.st k = 3 ∧ f.ph k = 2 then upd (wP f.ps) (f.nd k) (f.got k + 1) else if f.s.st k = 3 ∧ f.ph k = 3 then upd (wP f.ps) (f.nd k) 0 else wP f.ps := by
  have hu : k < f.ps.ac.length := by rw [h.ac]; exact hk
  have hc := h.cor.ndl k hk
  have hx := h.cor.cx k hk
  have st : ∀ v : Int, wP (doS f.ps k 2 (L.pA (f.nd k)) 0 v) = upd (wP f.ps) (f.nd k) v := fun v => by unfold Lp.pA; rw [h1]; exact wP_store hu hc h.wl
  show wP (f.mid L k k).ps = _
  by_cases s1 : f.s.st k = 1
  · have hp : f.ph k = 0 ∨ f.ph k = 1 ∨ f.ph k = 2 ∨ f.ph k = 3 := by cases hx <;> omega
    rw [(OrdJ.at_one (L := L) (u := (k : Int)) hk s1).2]
    rcases hp with p | p | p | p
    · rw [if_neg (by omega), if_neg (by omega), if_neg (by omega)]
      unfold FL.acq
      rw [if_pos p, h.adr.2]
      have es0 : (f.lk (f.nd k)).s = (f.Lc (f.nd k)).s := Inn.on_s _
      have yA : (f.ask k).At (la (f.nd k)) (H (f.nd k)) (V (f.nd k)) := by
        unfold FL.ask
        split
        · exact (h.loc k hk).lock _ _
        · exact h.loc k hk
      have yn : (f.ask k).s.n = (f.Lc (f.nd k)).s.n := by
        unfold FL.ask
        split
        · rw [Inn.lock_s, es0]; exact SS.lock_n _ _ _
        · rw [es0]
      have yz : (f.ask k).size = (f.Lc (f.nd k)).size := by
        unfold FL.ask
        split
        · rw [Inn.lock_size]; exact Inn.on_size _
        · exact Inn.on_size _
      obtain ⟨g', W', a, b, fl, fg, ew, el, en⟩ := h.loc_step (u := k) hk hu yA (f.ask_ps k) yn yz
      exact ew
    · rw [if_neg (by omega), if_neg (by omega), if_neg (by omega)]
      unfold FL.acq
      rw [if_neg (by omega), if_pos p]
      split
      · exact OrdJ.pass_load h1 k
      · exact OrdJ.pass_load h1 k
    · rw [if_neg (by omega), if_neg (by omega), if_neg (by omega)]
      unfold FL.acq
      rw [if_neg (by omega), if_neg (by omega), if_pos p, h.adr.1]
      obtain ⟨g', W', a, b, fl, ew, el, en, ex⟩ := h.glo_step (c := f.nd k) (u := k) hc hu
      exact ew
    · rw [if_pos ⟨s1, p⟩]
      unfold FL.acq
      rw [if_neg (by omega), if_neg (by omega), if_neg (by omega)]
      exact st 1
  rw [if_neg (fun x => s1 x.1)]
  by_cases s3 : f.s.st k = 3
  · have hp : f.ph k = 0 ∨ f.ph k = 1 ∨ f.ph k = 2 ∨ f.ph k = 3 ∨ f.ph k = 4 ∨ f.ph k = 5 := by cases hx <;> omega
    rw [(OrdJ.at_three (L := L) (u := (k : Int)) hk s3).2]
    rcases hp with p | p | p | p | p | p
    · rw [if_neg (by omega), if_neg (by omega)]
      unfold FL.rel
      rw [if_pos p]
      split
      · exact OrdJ.pass_load h1 k
      · exact OrdJ.pass_load h1 k
    · rw [if_neg (by omega), if_neg (by omega)]
      unfold FL.rel
      rw [if_neg (by omega), if_pos p, h.adr.2]
      obtain ⟨g', W', a, b, fl, fg, ew, el, en⟩ := h.loc_step (u := k) hk hu (h.loc k hk) (Inn.on_ps _) (by rw [show (f.lk (f.nd k)).s = (f.Lc (f.nd k)).s from Inn.on_s _]) (Inn.on_size _)
      exact ew
    · rw [if_pos ⟨s3, p⟩]
      unfold FL.rel
      rw [if_neg (by omega), if_neg (by omega), if_pos p]
      exact st _
    · rw [if_neg (by omega), if_pos ⟨s3, p⟩]
      unfold FL.rel
      rw [if_neg (by omega), if_neg (by omega), if_neg (by omega), if_pos p]
      exact st 0
    · rw [if_neg (by omega), if_neg (by omega)]
      unfold FL.rel
      obtain ⟨g', W', a, b, fl, ew, el, en, ex⟩ := h.glo_step (c := f.nd k) (u := k) hc hu
      rw [if_neg (by omega), if_neg (by omega), if_neg (by omega), if_neg (by omega), if_pos p, h.adr.1]
      split
      · exact ew
      · exact ew
    · rw [if_neg (by omega), if_neg (by omega)]
      unfold FL.rel
      rw [if_neg (by omega), if_neg (by omega), if_neg (by omega), if_neg (by omega), if_neg (by omega), h.adr.2]
      obtain ⟨g', W', a, b, fl, fg, ew, el, en⟩ := h.loc_step (u := k) hk hu (h.loc k hk) (Inn.on_ps _) (by rw [show (f.lk (f.nd k)).s = (f.Lc (f.nd k)).s from Inn.on_s _]) (Inn.on_size _)
      exact ew
  rw [if_neg (fun x => s3 x.1), if_neg (fun x => s3 x.1)]
  unfold FL.mid
  rw [if_pos (by omega), Int.toNat_natCast, if_neg s1, if_neg s3]
/-- of one node one is counted -/
theorem Ctd.ll (h : OrdJ f ga la H V gg Wg) {t : Nat} (ht : t < f.s.n) (c : Ctd f t) : 2 ≤ (f.Lc (f.nd t)).s.st (f.own t) := has_loc h ht (.inr (c.imp id fun x => x.1))
theorem Cnt.build {f' : FL} {row node : Int} {k : Nat} (F : Stf f f' k) (hP : ∀ c', c' < 8 → c' ≠ f.nd k → 1 ≤ wP f'.ps c' → wP f'.ps c' = wP f.ps c' ∧ CntAt f row node c') (hme : 1 ≤ wP f'.ps (f.nd k) → CntAt f' row node (f.nd k)) : Cnt f' row node := fun c hc hw => by
  by_cases e : c = f.nd k
  · subst e; exact hme hw
  obtain ⟨e1, a, b, d⟩ := hP c hc e hw
  have iff : (∃ t, t < f'.s.n ∧ f'.nd t = c ∧ Ctd f' t) ↔ ∃ t, t < f.s.n ∧ f.nd t = c ∧ Ctd f t := by
    have hn := F.n
    have hd := F.nd
    constructor
    · rintro ⟨t, t1, t2, t3⟩
      rw [hd] at t2
      have tk : t ≠ k := fun x => e (by rw [← t2, x])
      refine ⟨t, by omega, t2, ?_⟩
      unfold Ctd at t3 ⊢
      rw [F.st t tk, F.ph t tk] at t3
      exact t3
    · rintro ⟨t, t1, t2, t3⟩
      have tk : t ≠ k := fun x => e (by rw [← t2, x])
      refine ⟨t, by omega, by rw [hd]; exact t2, ?_⟩
      unfold Ctd at t3 ⊢
      rw [F.st t tk, F.ph t tk]
      exact t3
  refine ⟨a, fun x => ?_, fun x => ?_⟩
  · rw [e1]; exact b (iff.1 x)
  · rw [e1]; exact d fun y => x (iff.2 y)
theorem Cnt.keep {f' : FL} {row node : Int} (hq : Cnt f row node) {k : Nat} (F : Stf f f' k) (hc : f.nd k < 8) (hP : wP f'.ps = wP f.ps) (hk : Ctd f' k ↔ Ctd f k) : Cnt f' row node := by
  refine Cnt.build F (fun c h8 _ hw => ⟨by rw [hP], hq c h8 (by rw [← hP]; exact hw)⟩) fun hw => ?_
  obtain ⟨a, b, d⟩ := hq (f.nd k) hc (by rw [← hP]; exact hw)
  have hn := F.n
  have iff : (∃ t, t < f'.s.n ∧ f'.nd t = f.nd k ∧ Ctd f' t) ↔ ∃ t, t < f.s.n ∧ f.nd t = f.nd k ∧ Ctd f t := by
    have one : ∀ t, Ctd f' t ↔ Ctd f t := fun t => by
      by_cases e : t = k
      · subst e; exact hk
      · unfold Ctd; rw [F.st t e, F.ph t e]
    rw [F.nd, hn]
    exact exists_congr fun t => and_congr_right fun _ => and_congr_right fun _ => one t
  refine ⟨a, fun x => ?_, fun x => ?_⟩
  · rw [hP]; exact b (iff.1 x)
  · rw [hP]; exact d fun y => x (iff.2 y)
theorem Cnt.start {row node : Int} {f : FL} (h : ∀ c, wP f.ps c = 0) : Cnt f row node := fun c _ hw => by rw [h c] at hw; omega
theorem Cnt.step (h : OrdJ f ga la H V gg Wg) {row node : Int} (hq : Cnt f row node) (h1 : L.a1 = 0) {k : Nat} (hk : k < f.s.n) : StepN f (f.step L k k) row node (f.nd k) (f.did L k k) := by
  have hu : k < f.ps.ac.length := by rw [h.ac]; exact hk
  have hx := h.cor.cx k hk
  have hc := h.cor.ndl k hk
  have F := Stf.far h hk L k
  have hw := wP_step h h1 hk (L := L)
  -- none of k's node but k is counted where k has its node's lock
  have non : 2 ≤ (f.Lc (f.nd k)).s.st (f.own k) → ¬ Ctd f k → ¬ ∃ t, t < f.s.n ∧ f.nd t = f.nd k ∧ Ctd f t := fun l2 nk => by
    rintro ⟨t, t1, t2, t3⟩
    have := one_loc h t1 hk t2 (Ctd.ll h t1 t3) l2
    subst this
    exact nk t3
  -- another node's pass is 0 where k's node has the lock of all
  have oth : gg = some (f.nd k) → ∀ c', c' < 8 → c' ≠ f.nd k → 1 ≤ wP f.ps c' → False := fun g c' h8 ne hp => by
    have := pass_glo h h8 hp
    rw [g] at this
    exact ne (Option.some.inj this).symm
  by_cases s1 : f.s.st k = 1
  · have hp : f.ph k = 0 ∨ f.ph k = 1 ∨ f.ph k = 2 ∨ f.ph k = 3 := by cases hx <;> omega
    have nk : ¬ Ctd f k := fun x => by unfold Ctd at x; omega
    have same : wP (f.step L k k).ps = wP f.ps → (f.step L k k).s = f.s → Cnt (f.step L k k) row node := fun e es => hq.keep F hc e ⟨fun x => by unfold Ctd at x; rw [es] at x; omega, fun x => absurd x nk⟩
    rcases hp with p | p | p | p
    · obtain ⟨W', st, hd, es, _⟩ := h.stpL0 hk hu s1 p
      rw [if_neg (by omega), if_neg (by omega), if_neg (by omega)] at hw
      exact .same (by rw [hd]; exact (show (0 : Int) ≠ 1 by decide)) (same hw es)
    · rw [if_neg (by omega), if_neg (by omega), if_neg (by omega)] at hw
      by_cases h0 : wP f.ps (f.nd k) = 0
      · obtain ⟨hd, a, es, ep⟩ := h.stpL1b h1 hk hu s1 p h0
        exact .same (by rw [hd]; exact (show (0 : Int) ≠ 1 by decide)) (same hw es)
      · obtain ⟨hd, a, es, ep⟩ := h.stpL1a h1 hk hu s1 p h0
        obtain ⟨l2, q1, q2⟩ : (f.Lc (f.nd k)).s.st (f.own k) = 2 ∧ 1 ≤ wP f.ps (f.nd k) ∧ wP f.ps (f.nd k) ≤ f.bud := by cases hx <;> omega
        obtain ⟨n1, _, n3⟩ := hq _ hc q1
        have n4 := n3 (non (by omega) nk)
        refine .next hd n1 (by omega) (Cnt.build F (fun c' h8 ne hp => (oth (pass_glo h hc q1) c' h8 ne (by rw [← hw]; exact hp)).elim) fun _ => ⟨n1, fun _ => by rw [hw]; exact n4, fun x => ?_⟩)
        refine absurd ⟨k, by rw [F.n]; exact hk, by rw [F.nd], .inl ?_⟩ x
        rw [es]
        exact upd_same _ _ _
    · obtain ⟨gg', Wg', hd, a, st, es, ep, ev⟩ := h.stpL2 hk hu s1 p
      rw [if_neg (by omega), if_neg (by omega), if_neg (by omega)] at hw
      exact .same (by rw [hd]; exact (show (0 : Int) ≠ 1 by decide)) (same hw es)
    · obtain ⟨hd, a, es, ep⟩ := h.stpL3 h1 hk hu s1 p
      rw [if_pos ⟨s1, p⟩] at hw
      have g := has_glo h hk s1 p
      refine .lead hd (Cnt.build F (fun c' h8 ne hp => (oth g c' h8 ne (by rw [hw, upd_other _ _ ne] at hp; exact hp)).elim) fun _ => ⟨rfl, fun _ => by rw [hw, upd_same], fun x => ?_⟩)
      refine absurd ⟨k, by rw [F.n]; exact hk, by rw [F.nd], .inl ?_⟩ x
      rw [es]
      exact upd_same _ _ _
  by_cases s3 : f.s.st k = 3
  · have hp : f.ph k = 0 ∨ f.ph k = 1 ∨ f.ph k = 2 ∨ f.ph k = 3 ∨ f.ph k = 4 ∨ f.ph k = 5 := by cases hx <;> omega
    -- it stays counted; it stays uncounted
    have yes : wP (f.step L k k).ps = wP f.ps → (f.step L k k).s = f.s → f.ph k ≤ 3 → (f.step L k k).ph k ≤ 3 → Cnt (f.step L k k) row node := fun e es a b => hq.keep F hc e ⟨fun _ => .inr ⟨s3, a⟩, fun _ => .inr ⟨by rw [es]; exact s3, b⟩⟩
    have no : wP (f.step L k k).ps = wP f.ps → ¬ f.ph k ≤ 3 → ((f.step L k k).s = f.s ∧ ¬ (f.step L k k).ph k ≤ 3 ∨ (f.step L k k).s = f.s.set k 0 0) → Cnt (f.step L k k) row node := fun e a b => hq.keep F hc e ⟨fun x => by
      unfold Ctd at x
      rcases b with ⟨b1, b2⟩ | b
      · rw [b1] at x; omega
      · rw [b] at x
        have e0 : (f.s.set k 0 0).st k = 0 := upd_same _ _ _
        rw [e0] at x
        omega, fun x => by unfold Ctd at x; omega⟩
    rcases hp with p | p | p | p | p | p
    · rw [if_neg (by omega), if_neg (by omega), if_neg (by omega)] at hw
      by_cases h0 : wP f.ps (f.nd k) < f.bud
      · obtain ⟨hd, a, es, ep⟩ := h.stpU0a h1 hk hu s3 p h0
        exact .same (by rw [hd]; exact (show (0 : Int) ≠ 1 by decide)) (yes hw es (by omega) (by rw [ep, upd_same]; decide))
      · obtain ⟨hd, a, es, ep⟩ := h.stpU0b h1 hk hu s3 p h0
        exact .same (by rw [hd]; exact (show (0 : Int) ≠ 1 by decide)) (yes hw es (by omega) (by rw [ep, upd_same]; decide))
    · rw [if_neg (by omega), if_neg (by omega), if_neg (by omega)] at hw
      obtain ⟨x, x23, hd, a, es, ep⟩ := h.stpU1 hk hu s3 p
      exact .same (by rw [hd]; exact (show (0 : Int) ≠ 1 by decide)) (yes hw es (by omega) (by rw [ep, upd_same]; omega))
    · rw [if_neg (by omega), if_pos ⟨s3, p⟩] at hw
      obtain ⟨hd, a, es, ep⟩ := h.stpU2 h1 hk hu s3 p
      obtain ⟨l2, q1, hg⟩ : (f.Lc (f.nd k)).s.st (f.own k) = 2 ∧ 1 ≤ wP f.ps (f.nd k) ∧ f.got k = wP f.ps (f.nd k) := by cases hx <;> omega
      obtain ⟨n1, n2, _⟩ := hq _ hc q1
      have n4 := n2 ⟨k, hk, rfl, .inr ⟨s3, by omega⟩⟩
      refine .same (by rw [hd]; exact (show (0 : Int) ≠ 1 by decide)) (Cnt.build F (fun c' h8 ne hp => (oth (pass_glo h hc q1) c' h8 ne (by rw [hw, upd_other _ _ ne] at hp; exact hp)).elim) fun _ => ⟨n1, fun x => ?_, fun _ => by rw [hw, upd_same]; omega⟩)
      obtain ⟨t, t1, t2, t3⟩ := x
      rw [F.n] at t1
      rw [F.nd] at t2
      by_cases e : t = k
      · subst e
        unfold Ctd at t3
        rw [es, ep, upd_same] at t3
        omega
      · have t4 : Ctd f t := by unfold Ctd at t3 ⊢; rw [F.st t e, F.ph t e] at t3; exact t3
        exact absurd (one_loc h t1 hk t2 (Ctd.ll h t1 t4) (by omega)) e
    · rw [if_neg (by omega), if_neg (by omega), if_pos ⟨s3, p⟩] at hw
      obtain ⟨hd, a, es, ep⟩ := h.stpU3 h1 hk hu s3 p
      refine .same (by rw [hd]; exact (show (0 : Int) ≠ 1 by decide)) (Cnt.build F (fun c' h8 ne hp => ?_) fun x => ?_)
      · rw [hw, upd_other _ _ ne] at hp
        exact ⟨by rw [hw, upd_other _ _ ne], hq c' h8 hp⟩
      · rw [hw, upd_same] at x; omega
    · rw [if_neg (by omega), if_neg (by omega), if_neg (by omega)] at hw
      obtain ⟨gg', hd, a, es, ⟨_, ep⟩ | ⟨_, ep⟩⟩ := h.stpU4 hk hu s3 p
      · exact .same (by rw [hd]; exact (show (0 : Int) ≠ 1 by decide)) (no hw (by omega) (.inl ⟨es, by rw [ep]; omega⟩))
      · exact .same (by rw [hd]; exact (show (0 : Int) ≠ 1 by decide)) (no hw (by omega) (.inl ⟨es, by rw [ep, upd_same]; decide⟩))
    · rw [if_neg (by omega), if_neg (by omega), if_neg (by omega)] at hw
      rcases h.stpU5 hk hu s3 p with ⟨hd, a, es, ep⟩ | ⟨hd, a, es, ep⟩
      · exact .same (by rw [hd]; exact (show (0 : Int) ≠ 1 by decide)) (no hw (by omega) (.inl ⟨es, by rw [ep]; omega⟩))
      · exact .same (by rw [hd]; exact (show (3 : Int) ≠ 1 by decide)) (no hw (by omega) (.inr es))
  have s4 : f.s.st k ≠ 4 := by cases hx <;> omega
  obtain ⟨e1, e2⟩ := OrdJ.at_idle (L := L) (u := (k : Int)) hk s1 s3 s4
  rw [e1, e2]
  exact .same (by decide) hq
end
end Go.Proofs.YtkmikkjjnbikdaaGreat
