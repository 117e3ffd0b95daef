/- Each node's queue, and how many were granted in a row, as a law keeps them: what each step does to them; no walk. -/
import Derived.Test.YtkmikkjjnbikdaaGreatCohortRow
import Derived.Test.YtkmikkjjnbikdaaGreatCohortGo
namespace Go.Proofs.YtkmikkjjnbikdaaGreat
set_option linter.unusedVariables false
set_option maxRecDepth 100000

/-- what a context's node's lock knows of it -/
def FL.ll (f : FL) (t : Nat) : Int := (f.Lc (f.nd t)).s.st (f.own t)
/-- the law's queues: of each node who has its lock amid a call for the whole, then who waits in it -/
structure Que (f : FL) (V : Nat → List Nat) (q : Nat → List Nat) : Prop where
  mem : ∀ c, ∀ t ∈ q c, t < f.s.n ∧ f.nd t = c
  own : ∀ c, ∃ F : List Nat, (q c).map f.own = F ++ V c ∧ ((F = [] ∧ ∀ t, t < f.s.n → f.nd t = c → 2 ≤ f.ll t → f.s.st t ≠ 1) ∨ ∃ t, t < f.s.n ∧ f.nd t = c ∧ f.s.st t = 1 ∧ 2 ≤ f.ll t ∧ F = [f.own t])
/-- what a step tells of them -/
inductive StepC (q : Nat → List Nat) (c k : Nat) (d : Dd) (q' : Nat → List Nat) : Prop where
  | same (h0 : d.enq = false) (h1 : d.ev ≠ 1) (e : q' = q) : StepC q c k d q'
  | enq (hd : d = ⟨0, true, false, false⟩) (e : q' = upd q c (q c ++ [k])) : StepC q c k d q'
  | grant (b : Bool) (hd : d = ⟨1, false, false, b⟩) (r : List Nat) (e1 : q c = k :: r) (e2 : q' = upd q c r) : StepC q c k d q'
section
variable {f : FL} {L : Lp} {ga : Nat} {la : Nat → Nat} {H : Nat → Option Nat} {V : Nat → List Nat} {gg : Option Nat} {Wg : List Nat}
/-- a node whose pass isn't 0 has the lock of all -/
theorem pass_glo (h : OrdJ f ga la H V gg Wg) {c : Nat} (hc : c < 8) (hp : 1 ≤ wP f.ps c) : gg = some c := by
  have he : f.G.s.st c = 2 := by
    cases hH : H c with
    | none =>
      rcases h.cor.nob c hc hH with ⟨a, _⟩ | ⟨_, _, a, _⟩
      · omega
      · exact a
    | some j =>
      obtain ⟨hl, t, ht, rfl, rfl⟩ := h.cor.held c j hH
      have hl : 2 ≤ (f.Lc (f.nd t)).s.st (f.own t) := hl
      have hx := h.cor.cx t ht
      cases hx <;> omega
  have hq := h.glo.qf
  unfold FL.gl at hq
  rw [Inn.on_s] at hq
  exact hq.held (by rw [h.gn]; exact hc) (.inl he)
theorem Que.start {f : FL} {V : Nat → List Nat} (h0 : ∀ t, f.s.st t = 0) (hv : ∀ c, V c = []) : Que f V (fun _ => []) :=
  ⟨fun c t ht => by simp at ht, fun c => ⟨[], by rw [hv c]; rfl, .inl ⟨rfl, fun t _ _ _ e => absurd ((h0 t).symm.trans e) (by decide)⟩⟩⟩
/-- only k turns: who it is that has its node's lock amid a call for the whole stays -/
theorem Que.keep {f f' : FL} {V : Nat → List Nat} {q : Nat → List Nat} (hq : Que f V q) {k : Nat} (hn : f'.s.n = f.s.n) (hnd : f'.nd = f.nd) (how : f'.own = f.own) (hs : ∀ t, t ≠ k → f'.s.st t = f.s.st t) (hl : ∀ t, t < f.s.n → t ≠ k → f'.ll t = f.ll t)
    (hk : (f'.s.st k = 1 ∧ 2 ≤ f'.ll k) ↔ (f.s.st k = 1 ∧ 2 ≤ f.ll k)) : Que f' V q := by
  refine ⟨fun c t ht => by rw [hn, hnd]; exact hq.mem c t ht, fun c => ?_⟩
  obtain ⟨F, e, hF⟩ := hq.own c
  refine ⟨F, by rw [how]; exact e, ?_⟩
  rcases hF with ⟨a, b⟩ | ⟨t, t1, t2, t3, t4, t5⟩
  · refine .inl ⟨a, fun t ht hc h2 h1 => ?_⟩
    rw [hn] at ht
    rw [hnd] at hc
    by_cases x : t = k
    · subst x
      have := hk.1 ⟨h1, h2⟩
      exact b t ht hc this.2 this.1
    · rw [hl t ht x] at h2
      rw [hs t x] at h1
      exact b t ht hc h2 h1
  · refine .inr ⟨t, by rw [hn]; exact t1, by rw [hnd]; exact t2, ?_, ?_, by rw [how]; exact t5⟩
    · by_cases x : t = k
      · subst x; exact (hk.2 ⟨t3, t4⟩).1
      · rw [hs t x]; exact t3
    · by_cases x : t = k
      · subst x; exact (hk.2 ⟨t3, t4⟩).2
      · rw [hl t t1 x]; exact t4
/-- k, who has its node's lock, is granted the whole: it is the first of its queue -/
theorem Que.pop {f f' : FL} {q : Nat → List Nat} (h : OrdJ f ga la H V gg Wg) (hq : Que f V q) {k : Nat} (hk : k < f.s.n) (s1 : f.s.st k = 1) (l2 : 2 ≤ f.ll k) (hn : f'.s.n = f.s.n) (hnd : f'.nd = f.nd) (how : f'.own = f.own) (hs : ∀ t, t ≠ k → f'.s.st t = f.s.st t) (hsk : f'.s.st k = 2) (hl : ∀ t, t < f.s.n → f'.ll t = f.ll t) :
    ∃ r, q (f.nd k) = k :: r ∧ Que f' V (upd q (f.nd k) r) := by
  obtain ⟨F, e, hF⟩ := hq.own (f.nd k)
  have hF1 : F = [f.own k] := by
    rcases hF with ⟨a, b⟩ | ⟨t, t1, t2, t3, t4, t5⟩
    · exact absurd s1 (b k hk rfl l2)
    · have : t = k := one_loc h t1 hk t2 t4 l2
      rw [t5, this]
  subst hF1
  match hqc : q (f.nd k), e with
  | [], e => cases e
  | x :: r, e =>
    simp only [List.map_cons, List.singleton_append, List.cons.injEq] at e
    obtain ⟨x1, x2⟩ := hq.mem (f.nd k) x (by rw [hqc]; simp)
    have xk : x = k := h.cor.inj x k x1 hk x2 e.1
    subst xk
    refine ⟨r, rfl, fun c t ht => ?_, fun c => ?_⟩
    · rw [hn, hnd]
      by_cases y : c = f.nd x
      · subst y
        rw [upd_same] at ht
        exact hq.mem _ t (by rw [hqc]; simp [ht])
      · rw [upd_other _ _ y] at ht
        exact hq.mem c t ht
    · by_cases y : c = f.nd x
      · subst y
        rw [upd_same]
        refine ⟨[], by rw [how]; exact e.2, .inl ⟨rfl, fun t ht hc h2 h1 => ?_⟩⟩
        rw [hn] at ht
        rw [hnd] at hc
        rw [hl t ht] at h2
        have : t = x := one_loc h ht hk hc h2 l2
        subst this
        omega
      · rw [upd_other _ _ y]
        obtain ⟨F, e', hF⟩ := hq.own c
        refine ⟨F, by rw [how]; exact e', ?_⟩
        rcases hF with ⟨a, b⟩ | ⟨t, t1, t2, t3, t4, t5⟩
        · refine .inl ⟨a, fun t ht hc h2 h1 => ?_⟩
          rw [hn] at ht
          rw [hnd] at hc
          rw [hl t ht] at h2
          have tx : t ≠ x := fun z => y (by rw [← hc, z])
          rw [hs t tx] at h1
          exact b t ht hc h2 h1
        · have tx : t ≠ x := fun z => y (by rw [← t2, z])
          exact .inr ⟨t, by rw [hn]; exact t1, by rw [hnd]; exact t2, by rw [hs t tx]; exact t3, by rw [hl t t1]; exact t4, by rw [how]; exact t5⟩
/-- what a step of k leaves of all others -/
structure Stf (f f' : FL) (k : Nat) : Prop where
  n : f'.s.n = f.s.n
  nd : f'.nd = f.nd
  own : f'.own = f.own
  st : ∀ t, t ≠ k → f'.s.st t = f.s.st t
  ph : ∀ t, t ≠ k → f'.ph t = f.ph t
  ll : ∀ t, t < f.s.n → t ≠ k → f'.ll t = f.ll t
theorem Stf.far (h : OrdJ f ga la H V gg Wg) {k : Nat} (hk : k < f.s.n) (L : Lp) (u : Int) : Stf f (f.step L k u) k := by
  obtain ⟨e1, e2, e3, e4⟩ := f.mid_s L k u
  refine ⟨f.s.fin_n _ _, e2, e3, fun t ht => fin_off _ _ ht, fun t ht => ?_, fun t ht hne => ?_⟩
  · show (if endB f.s k (f.did L k u).ev = true then upd (f.mid L k u).ph (k : Int).toNat 0 else (f.mid L k u).ph) t = _
    split
    · rw [upd_other _ _ (by simpa using ht)]; exact mid_ph f L k u ht
    · exact mid_ph f L k u ht
  · show ((f.mid L k u).Lc ((f.mid L k u).nd t)).s.st ((f.mid L k u).own t) = _
    rw [e2, e3]
    refine mid_loc f L k u ?_
    by_cases q : f.nd t = f.nd k
    · exact .inr fun e => hne (h.cor.inj t k ht hk q e)
    · exact .inl q
theorem Que.step (h : OrdJ f ga la H V gg Wg) {q : Nat → List Nat} (hq : Que f V q) (h1 : L.a1 = 0) {k : Nat} (hk : k < f.s.n) :
    ∃ H' V' gg' Wg' q', OrdJ (f.step L k k) ga la H' V' gg' Wg' ∧ Que (f.step L k k) V' q' ∧ StepC q (f.nd k) k (f.did L k k) q' := by
  have hu : k < f.ps.ac.length := by rw [h.ac]; exact hk
  have hx := h.cor.cx k hk
  have F := Stf.far h hk L k
  -- k isn't amid a call for the whole with its node's lock, neither ahead of the step nor behind it; or it is both times
  have key : ∀ {H' gg' Wg'}, OrdJ (f.step L k k) ga la H' V gg' Wg' → (((f.step L k k).s.st k = 1 ∧ 2 ≤ (f.step L k k).ll k) ↔ (f.s.st k = 1 ∧ 2 ≤ f.ll k)) → Que (f.step L k k) V q := fun _ e => hq.keep F.n F.nd F.own F.st F.ll e
  have lp : ∀ {H' V' gg' Wg'}, OrdJ (f.step L k k) ga la H' V' gg' Wg' → (f.step L k k).s.st k = 1 → 1 ≤ (f.step L k k).ph k → 2 ≤ (f.step L k k).ll k := fun a b c => has_loc a (by rw [F.n]; exact hk) (.inl ⟨b, c⟩)
  by_cases s1 : f.s.st k = 1
  · have hp : f.ph k = 0 ∨ f.ph k = 1 ∨ f.ph k = 2 ∨ f.ph k = 3 := by cases hx <;> omega
    have l2 : 1 ≤ f.ph k → 2 ≤ f.ll k := fun x => has_loc h hk (.inl ⟨s1, x⟩)
    rcases hp with p | p | p | p
    · have l01 : f.ll k = 0 ∨ f.ll k = 1 := by
        show (f.Lc (f.nd k)).s.st (f.own k) = 0 ∨ (f.Lc (f.nd k)).s.st (f.own k) = 1
        cases hx with
        | loc hx hp hl => exact hl
        | _ => omega
      obtain ⟨W', st, hd, es, ⟨e0, a, ep⟩ | ⟨e1, hH, a, ep⟩⟩ := h.stpL0 hk hu s1 p
      · have l' : ¬ 2 ≤ (f.step L k k).ll k := fun x => by
          have hx' := a.cor.cx k (by rw [F.n]; exact hk)
          have x : 2 ≤ ((f.step L k k).Lc ((f.step L k k).nd k)).s.st ((f.step L k k).own k) := x
          have s' : (f.step L k k).s.st k = 1 := by rw [es]; exact s1
          have p' : (f.step L k k).ph k = 0 := by rw [ep]; exact p
          cases hx' <;> omega
        have keep : ∀ {V'}, V' = V → Que (f.step L k k) V' q := fun e => by subst e; exact hq.keep F.n F.nd F.own F.st F.ll ⟨fun x => absurd x.2 l', fun x => by have := x.2; omega⟩
        cases st with
        | same q0 q1 qe =>
          refine ⟨_, _, _, _, q, a, keep (by rw [qe]; exact upd_idx _ _ rfl), .same (by rw [hd, q0]) (by rw [hd]; exact (show (0 : Int) ≠ 1 by decide)) rfl⟩
        | enq qd qe =>
          refine ⟨_, _, _, _, _, a, ⟨fun c t ht => ?_, fun c => ?_⟩, .enq (by rw [hd, qd]) rfl⟩
          · rw [F.n, F.nd]
            by_cases y : c = f.nd k
            · subst y
              rw [upd_same] at ht
              rcases List.mem_append.1 ht with ht | ht
              · exact hq.mem _ t ht
              · obtain rfl : t = k := by simpa using ht
                exact ⟨hk, rfl⟩
            · rw [upd_other _ _ y] at ht
              exact hq.mem c t ht
          · obtain ⟨G, e, hG⟩ := (hq.keep F.n F.nd F.own F.st F.ll ⟨fun x => absurd x.2 l', fun x => by have := x.2; omega⟩).own c
            refine ⟨G, ?_, hG⟩
            by_cases y : c = f.nd k
            · subst y
              rw [upd_same, upd_same, List.map_append, e, qe, List.append_assoc]
              rw [F.own]
              rfl
            · rw [upd_other _ _ y, upd_other _ _ y]; exact e
        | grant qd qe => rw [qd] at e0; cases e0
        | both qd qe qe' => rw [qd] at e0; cases e0
      · -- its node's lock is granted
        have s' : (f.step L k k).s.st k = 1 := by rw [es]; exact s1
        have p' : (f.step L k k).ph k = 1 := by rw [ep, upd_same]
        have l' := lp a s' (by omega)
        obtain ⟨G, e, hG⟩ := hq.own (f.nd k)
        have hG0 : G = [] := by
          rcases hG with ⟨x, _⟩ | ⟨t, t1, t2, t3, t4, t5⟩
          · exact x
          · have := h.cor.hold t t1 t4
            rw [t2, hH] at this
            cases this
        subst hG0
        -- of the others
        have oth : ∀ c, c ≠ f.nd k → ∃ G, (q c).map (f.step L k k).own = G ++ V c ∧ ((G = [] ∧ ∀ t, t < (f.step L k k).s.n → (f.step L k k).nd t = c → 2 ≤ (f.step L k k).ll t → (f.step L k k).s.st t ≠ 1) ∨ ∃ t, t < (f.step L k k).s.n ∧ (f.step L k k).nd t = c ∧ (f.step L k k).s.st t = 1 ∧ 2 ≤ (f.step L k k).ll t ∧ G = [(f.step L k k).own t]) := fun c y => by
          obtain ⟨G, e', hG⟩ := hq.own c
          refine ⟨G, by rw [F.own]; exact e', ?_⟩
          rcases hG with ⟨x, b⟩ | ⟨t, t1, t2, t3, t4, t5⟩
          · refine .inl ⟨x, fun t ht hc h2 h1 => ?_⟩
            rw [F.n] at ht
            rw [F.nd] at hc
            have tk : t ≠ k := fun z => y (by rw [← hc, z])
            rw [F.ll t ht tk] at h2
            rw [F.st t tk] at h1
            exact b t ht hc h2 h1
          · have tk : t ≠ k := fun z => y (by rw [← t2, z])
            exact .inr ⟨t, by rw [F.n]; exact t1, by rw [F.nd]; exact t2, by rw [F.st t tk]; exact t3, by rw [F.ll t t1 tk]; exact t4, by rw [F.own]; exact t5⟩
        have mine : ∀ {l : List Nat} {r : List Nat}, l.map f.own = f.own k :: r → ∃ G, l.map (f.step L k k).own = G ++ r ∧ ((G = [] ∧ ∀ t, t < (f.step L k k).s.n → (f.step L k k).nd t = f.nd k → 2 ≤ (f.step L k k).ll t → (f.step L k k).s.st t ≠ 1) ∨ ∃ t, t < (f.step L k k).s.n ∧ (f.step L k k).nd t = f.nd k ∧ (f.step L k k).s.st t = 1 ∧ 2 ≤ (f.step L k k).ll t ∧ G = [(f.step L k k).own t]) := fun el => ⟨[f.own k], by rw [F.own]; exact el, .inr ⟨k, by rw [F.n]; exact hk, by rw [F.nd], s', l', by rw [F.own]⟩⟩
        cases st with
        | same q0 q1 qe => exact absurd e1 q1
        | enq qd qe => rw [qd] at e1; cases e1
        | grant qd qe =>
          refine ⟨_, _, _, _, q, a, ⟨fun c t ht => by rw [F.n, F.nd]; exact hq.mem c t ht, fun c => ?_⟩, .same (by rw [hd, qd]) (by rw [hd]; exact (show (0 : Int) ≠ 1 by decide)) rfl⟩
          by_cases y : c = f.nd k
          · subst y
            rw [upd_same]
            rw [qe] at e
            exact mine e
          · rw [upd_other _ _ y]; exact oth c y
        | both qd qe qe' =>
          rw [qe] at e
          have qn : q (f.nd k) = [] := List.map_eq_nil_iff.1 e
          refine ⟨_, _, _, _, upd q (f.nd k) (q (f.nd k) ++ [k]), a, ⟨fun c t ht => ?_, fun c => ?_⟩, .enq (by rw [hd, qd]) rfl⟩
          · rw [F.n, F.nd]
            by_cases y : c = f.nd k
            · subst y
              rw [upd_same, qn] at ht
              obtain rfl : t = k := by simpa using ht
              exact ⟨hk, rfl⟩
            · rw [upd_other _ _ y] at ht
              exact hq.mem c t ht
          · by_cases y : c = f.nd k
            · subst y
              rw [upd_same, upd_same, qn, qe']
              exact mine rfl
            · rw [upd_other _ _ y, upd_other _ _ y]; exact oth c y
    · by_cases hw : wP f.ps (f.nd k) = 0
      · obtain ⟨hd, a, es, ep⟩ := h.stpL1b h1 hk hu s1 p hw
        have s' : (f.step L k k).s.st k = 1 := by rw [es]; exact s1
        exact ⟨_, _, _, _, q, a, key a ⟨fun _ => ⟨s1, l2 (by omega)⟩, fun _ => ⟨s', lp a s' (by rw [ep, upd_same]; decide)⟩⟩, .same (by rw [hd]; rfl) (by rw [hd]; exact (show (0 : Int) ≠ 1 by decide)) rfl⟩
      · obtain ⟨hd, a, es, ep⟩ := h.stpL1a h1 hk hu s1 p hw
        have sk : (f.step L k k).s.st k = 2 := by rw [es]; exact upd_same _ _ _
        have ll : ∀ t, t < f.s.n → (f.step L k k).ll t = f.ll t := fun t ht => by
          have em := (OrdJ.at_one (L := L) (u := (k : Int)) hk s1).2
          show ((f.mid L k k).Lc ((f.mid L k k).nd t)).s.st ((f.mid L k k).own t) = _
          rw [em]
          unfold FL.acq
          rw [if_neg (by omega), if_pos p]
          split <;> rfl
        obtain ⟨r, x, y⟩ := hq.pop h hk s1 (l2 (by omega)) F.n F.nd F.own F.st sk ll
        exact ⟨_, _, _, _, _, a, y, .grant false hd r x rfl⟩
    · obtain ⟨gg', Wg', hd, a, st, es, ep, ev⟩ := h.stpL2 hk hu s1 p
      have s' : (f.step L k k).s.st k = 1 := by rw [es]; exact s1
      exact ⟨_, _, _, _, q, a, key a ⟨fun _ => ⟨s1, l2 (by omega)⟩, fun _ => ⟨s', lp a s' (by rw [ep, upd_same]; omega)⟩⟩, .same (by rw [hd]) (by rw [hd]; exact (show (0 : Int) ≠ 1 by decide)) rfl⟩
    · obtain ⟨hd, a, es, ep⟩ := h.stpL3 h1 hk hu s1 p
      have sk : (f.step L k k).s.st k = 2 := by rw [es]; exact upd_same _ _ _
      have ll : ∀ t, t < f.s.n → (f.step L k k).ll t = f.ll t := fun t ht => by
        have em := (OrdJ.at_one (L := L) (u := (k : Int)) hk s1).2
        show ((f.mid L k k).Lc ((f.mid L k k).nd t)).s.st ((f.mid L k k).own t) = _
        rw [em]
        unfold FL.acq
        rw [if_neg (by omega), if_neg (by omega), if_neg (by omega)]
        rfl
      obtain ⟨r, x, y⟩ := hq.pop h hk s1 (l2 (by omega)) F.n F.nd F.own F.st sk ll
      exact ⟨_, _, _, _, _, a, y, .grant true hd r x rfl⟩
  by_cases s3 : f.s.st k = 3
  · have hp : f.ph k = 0 ∨ f.ph k = 1 ∨ f.ph k = 2 ∨ f.ph k = 3 ∨ f.ph k = 4 ∨ f.ph k = 5 := by cases hx <;> omega
    have non : ∀ {H' gg' Wg'}, OrdJ (f.step L k k) ga la H' V gg' Wg' → ((f.step L k k).s = f.s ∨ (f.step L k k).s = f.s.set k 0 0) → Que (f.step L k k) V q := fun a e => by
      refine key a ⟨fun x => ?_, fun x => absurd x.1 (by omega)⟩
      rcases e with e | e
      · rw [e] at x; exact absurd x.1 (by omega)
      · have x1 := x.1
        rw [e] at x1
        exact absurd ((upd_same f.s.st k 0).symm.trans x1) (by decide)
    rcases hp with p | p | p | p | p | p
    · by_cases hw : wP f.ps (f.nd k) < f.bud
      · obtain ⟨hd, a, es, ep⟩ := h.stpU0a h1 hk hu s3 p hw
        exact ⟨_, _, _, _, q, a, non a (.inl es), .same (by rw [hd]; rfl) (by rw [hd]; exact (show (0 : Int) ≠ 1 by decide)) rfl⟩
      · obtain ⟨hd, a, es, ep⟩ := h.stpU0b h1 hk hu s3 p hw
        exact ⟨_, _, _, _, q, a, non a (.inl es), .same (by rw [hd]; rfl) (by rw [hd]; exact (show (0 : Int) ≠ 1 by decide)) rfl⟩
    · obtain ⟨x, _, hd, a, es, ep⟩ := h.stpU1 hk hu s3 p
      exact ⟨_, _, _, _, q, a, non a (.inl es), .same (by rw [hd]; rfl) (by rw [hd]; exact (show (0 : Int) ≠ 1 by decide)) rfl⟩
    · obtain ⟨hd, a, es, ep⟩ := h.stpU2 h1 hk hu s3 p
      exact ⟨_, _, _, _, q, a, non a (.inl es), .same (by rw [hd]; rfl) (by rw [hd]; exact (show (0 : Int) ≠ 1 by decide)) rfl⟩
    · obtain ⟨hd, a, es, ep⟩ := h.stpU3 h1 hk hu s3 p
      exact ⟨_, _, _, _, q, a, non a (.inl es), .same (by rw [hd]; rfl) (by rw [hd]; exact (show (0 : Int) ≠ 1 by decide)) rfl⟩
    · obtain ⟨gg', hd, a, es, _⟩ := h.stpU4 hk hu s3 p
      exact ⟨_, _, _, _, q, a, non a (.inl es), .same (by rw [hd]; rfl) (by rw [hd]; exact (show (0 : Int) ≠ 1 by decide)) rfl⟩
    · rcases h.stpU5 hk hu s3 p with ⟨hd, a, es, ep⟩ | ⟨hd, a, es, ep⟩
      · exact ⟨_, _, _, _, q, a, non a (.inl es), .same (by rw [hd]; rfl) (by rw [hd]; exact (show (0 : Int) ≠ 1 by decide)) rfl⟩
      · exact ⟨_, _, _, _, q, a, non a (.inr es), .same (by rw [hd]) (by rw [hd]; exact (show (3 : Int) ≠ 1 by decide)) rfl⟩
  have s4 : f.s.st k ≠ 4 := by cases hx <;> omega
  obtain ⟨e1, e2⟩ := OrdJ.at_idle (L := L) (u := (k : Int)) hk s1 s3 s4
  rw [e1, e2]
  exact ⟨_, _, _, _, q, h, hq, .same rfl (by decide) rfl⟩
end
end Go.Proofs.YtkmikkjjnbikdaaGreat
