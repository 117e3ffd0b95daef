/- Who waits for the lock of all, in order, as a law keeps it: what each step does to that list; no walk. -/
import Derived.Test.YtkmikkjjnbikdaaGreatCohortAcc
namespace Go.Proofs.YtkmikkjjnbikdaaGreat
set_option linter.unusedVariables false
set_option maxRecDepth 100000

/-- R: first who has the lock of all and is to lead, if there is one, then who waits for it -/
structure Row (f : FL) (Wg R : List Nat) : Prop where
  ex : ∃ R3 R2 : List Nat, R = R3 ++ R2 ∧ R2.map f.nd = Wg ∧ (∀ t ∈ R2, t < f.s.n ∧ f.s.st t = 1 ∧ f.ph t = 2) ∧ (∀ t ∈ R3, t < f.s.n ∧ f.s.st t = 1 ∧ f.ph t = 3) ∧ (∀ t, t < f.s.n → f.s.st t = 1 → f.ph t = 3 → R3 = [t]) ∧ R3.length ≤ 1
/-- what a step tells of it -/
inductive StepL (R : List Nat) (k : Nat) (d : Dd) (R' : List Nat) : Prop where
  | same (ha : d.arr = false) (hl : d.lead = false) (e : R' = R) : StepL R k d R'
  | arr (hd : d = ⟨0, false, true, false⟩) (e : R' = R ++ [k]) : StepL R k d R'
  | lead (hd : d = ⟨1, false, false, true⟩) (e : R = k :: R') : StepL R k d R'
theorem Row.keep {f f' : FL} {Wg R : List Nat} (h : Row f Wg R) {k : Nat} (hn : f'.s.n = f.s.n) (hnd : f'.nd = f.nd) (hs : ∀ t, t ≠ k → f'.s.st t = f.s.st t) (hp : ∀ t, t ≠ k → f'.ph t = f.ph t)
    (hb : f.s.st k = 1 → f.ph k = 2 ∨ f.ph k = 3 → f'.s.st k = 1 ∧ f'.ph k = f.ph k) (ha : f'.s.st k = 1 → f'.ph k = 3 → f.s.st k = 1 ∧ f.ph k = 3) : Row f' Wg R := by
  obtain ⟨R3, R2, e, m, h2, h3, hu, hl⟩ := h.ex
  refine ⟨R3, R2, e, by rw [hnd]; exact m, fun t ht => ?_, fun t ht => ?_, fun t ht s p => ?_, hl⟩
  · obtain ⟨a, b, c⟩ := h2 t ht
    by_cases q : t = k
    · subst q
      obtain ⟨x, y⟩ := hb b (.inl c)
      exact ⟨by omega, x, y.trans c⟩
    · exact ⟨by omega, (hs t q).trans b, (hp t q).trans c⟩
  · obtain ⟨a, b, c⟩ := h3 t ht
    by_cases q : t = k
    · subst q
      obtain ⟨x, y⟩ := hb b (.inr c)
      exact ⟨by omega, x, y.trans c⟩
    · exact ⟨by omega, (hs t q).trans b, (hp t q).trans c⟩
  · by_cases q : t = k
    · subst q
      obtain ⟨x, y⟩ := ha s p
      exact hu t (by omega) x y
    · exact hu t (by omega) ((hs t q).symm.trans s) ((hp t q).symm.trans p)
section
variable {f : FL} {L : Lp} {ga : Nat} {la : Nat → Nat} {H : Nat → Option Nat} {V : Nat → List Nat} {gg : Option Nat} {Wg : List Nat}
/-- of one node one has its lock -/
theorem one_loc (h : OrdJ f ga la H V gg Wg) {t u : Nat} (ht : t < f.s.n) (hu : u < f.s.n) (e : f.nd t = f.nd u) (lt : 2 ≤ (f.Lc (f.nd t)).s.st (f.own t)) (lu : 2 ≤ (f.Lc (f.nd u)).s.st (f.own u)) : t = u := by
  have a := h.cor.hold t ht lt
  have b := h.cor.hold u hu lu
  rw [e] at a
  rw [a] at b
  exact h.cor.inj t u ht hu e (Option.some.inj b)
theorem has_loc (h : OrdJ f ga la H V gg Wg) {t : Nat} (ht : t < f.s.n) (s : (f.s.st t = 1 ∧ 1 ≤ f.ph t) ∨ f.s.st t = 2 ∨ f.s.st t = 3) : 2 ≤ (f.Lc (f.nd t)).s.st (f.own t) := by
  have hx := h.cor.cx t ht
  cases hx <;> omega
/-- who leads next has the lock of all -/
theorem has_glo (h : OrdJ f ga la H V gg Wg) {t : Nat} (ht : t < f.s.n) (s : f.s.st t = 1) (p : f.ph t = 3) : gg = some (f.nd t) := by
  have hx := h.cor.cx t ht
  have he : f.G.s.st (f.nd t) = 2 := by
    cases hx with
    | fst hx hp hl hq he => exact he
    | _ => omega
  have hq := h.glo.qf
  unfold FL.gl at hq
  rw [Inn.on_s] at hq
  exact hq.held (by rw [h.gn]; exact h.cor.ndl t ht) (.inl he)
theorem Row.start {f : FL} (h0 : ∀ t, f.s.st t = 0) : Row f [] [] :=
  ⟨⟨[], [], rfl, rfl, by simp, by simp, fun t _ s => absurd ((h0 t).symm.trans s) (by decide), by simp⟩⟩
theorem Row.step (h : OrdJ f ga la H V gg Wg) {R : List Nat} (hr : Row f Wg R) (h1 : L.a1 = 0) {k : Nat} (hk : k < f.s.n) :
    ∃ H' V' gg' Wg' R', OrdJ (f.step L k k) ga la H' V' gg' Wg' ∧ Row (f.step L k k) Wg' R' ∧ StepL R k (f.did L k k) R' := by
  have hu : k < f.ps.ac.length := by rw [h.ac]; exact hk
  have hx := h.cor.cx k hk
  have nd' : (f.step L k k).nd = f.nd := (f.mid_s L k k).2.1
  have up : ∀ {α : Type} (g : Nat → α) (v : α) (t : Nat), t ≠ k → upd g k v t = g t := fun g v t ht => upd_other _ _ ht
  -- a step that turns neither who is to lead nor who waits
  have key : ∀ {H' V' gg'} (hJ : OrdJ (f.step L k k) ga la H' V' gg' Wg) {x : Int} {p : Int} (hs : (f.step L k k).s.st = upd f.s.st k x) (hp : (f.step L k k).ph = upd f.ph k p) (hb : ¬ (f.s.st k = 1 ∧ (f.ph k = 2 ∨ f.ph k = 3))) (ha : ¬ (x = 1 ∧ p = 3)), Row (f.step L k k) Wg R := fun {H' V' gg'} hJ {x p} hs hp hb ha => by
    refine hr.keep (k := k) (f.s.fin_n _ _) nd' (fun t ht => by rw [hs]; exact up _ _ t ht) (fun t ht => by rw [hp]; exact up _ _ t ht) (fun a b => absurd ⟨a, b⟩ hb) fun a b => ?_
    rw [hs, upd_same] at a
    rw [hp, upd_same] at b
    exact absurd ⟨a, b⟩ ha
  by_cases s1 : f.s.st k = 1
  · have hp : f.ph k = 0 ∨ f.ph k = 1 ∨ f.ph k = 2 ∨ f.ph k = 3 := by cases hx <;> omega
    rcases hp with p | p | p | p
    · obtain ⟨W', _, hd, es, ⟨_, a, ep⟩ | ⟨_, _, a, ep⟩⟩ := h.stpL0 hk hu s1 p
      · exact ⟨_, _, _, _, R, a, key a (x := 1) (p := 0) (by rw [es]; exact (upd_idx _ _ s1).symm) (by rw [ep]; exact (upd_idx _ _ p).symm) (by omega) (by omega), .same (by rw [hd]) (by rw [hd]) rfl⟩
      · exact ⟨_, _, _, _, R, a, key a (x := 1) (p := 1) (by rw [es]; exact (upd_idx _ _ s1).symm) ep (by omega) (by omega), .same (by rw [hd]) (by rw [hd]) rfl⟩
    · by_cases hw : wP f.ps (f.nd k) = 0
      · obtain ⟨hd, a, es, ep⟩ := h.stpL1b h1 hk hu s1 p hw
        exact ⟨_, _, _, _, R, a, key a (x := 1) (p := 2) (by rw [es]; exact (upd_idx _ _ s1).symm) ep (by omega) (by omega), .same (by rw [hd]; rfl) (by rw [hd]; rfl) rfl⟩
      · obtain ⟨hd, a, es, ep⟩ := h.stpL1a h1 hk hu s1 p hw
        exact ⟨_, _, _, _, R, a, key a (x := 2) (p := 0) (by rw [es]; rfl) ep (by omega) (by omega), .same (by rw [hd]) (by rw [hd]) rfl⟩
    · obtain ⟨gg', Wg', hd, a, st, es, ep, ev⟩ := h.stpL2 hk hu s1 p
      have es' : (f.step L k k).s.st = f.s.st := by rw [es]
      have lk2 := has_loc h hk (.inl ⟨s1, by omega⟩)
      obtain ⟨R3, R2, e, m, m2, m3, mu, ml⟩ := hr.ex
      -- nobody is to lead where k is granted the lock of all
      have no3 : (f.gl.did ga (f.nd k : Nat) k).ev = 1 → R3 = [] := fun e1 => by
        match R3, m3 with
        | [], _ => rfl
        | t :: r, m3 =>
          exfalso
          obtain ⟨t1, t2, t3⟩ := m3 t (by simp)
          have tk : t ≠ k := fun q => by subst q; omega
          have hn' : (f.step L k k).s.n = f.s.n := f.s.fin_n _ _
          have g1 := has_glo a (t := t) (by omega) (by rw [es']; exact t2) (by rw [ep, up _ _ t tk]; exact t3)
          have g2 := has_glo a (t := k) (by omega) (by rw [es']; exact s1) (by rw [ep, upd_same, e1]; rfl)
          rw [g1, nd'] at g2
          exact tk (one_loc h t1 hk (Option.some.inj g2) (has_loc h t1 (.inl ⟨t2, by omega⟩)) lk2)
      have hn' : (f.step L k k).s.n = f.s.n := f.s.fin_n _ _
      rcases ev with e0 | e1
      · -- not yet
        rw [e0] at ep
        have ep2 : (f.step L k k).ph = f.ph := by rw [ep]; exact upd_idx _ _ p
        cases st with
        | same q0 q1 qe =>
          rw [qe] at a
          refine ⟨_, _, _, _, R, a, hr.keep (k := k) hn' nd' (fun t _ => by rw [es']) (fun t _ => by rw [ep2]) (fun x y => ⟨by rw [es']; exact x, by rw [ep2]⟩) (fun x y => ⟨by rw [← es']; exact x, by rw [← ep2]; exact y⟩), .same (by rw [hd, q0]) (by rw [hd]) rfl⟩
        | enq qd qe =>
          rw [qe] at a
          refine ⟨_, _, _, _, R ++ [k], a, ⟨R3, R2 ++ [k], by rw [e, List.append_assoc], by rw [nd', List.map_append, m]; rfl, fun t ht => ?_, fun t ht => ?_, fun t ht s q => ?_, ml⟩, .arr (by rw [hd, qd]) rfl⟩
          · rw [hn', es', ep2]
            rcases List.mem_append.1 ht with ht | ht
            · exact m2 t ht
            · obtain rfl : t = k := by simpa using ht
              exact ⟨hk, s1, p⟩
          · rw [hn', es', ep2]; exact m3 t ht
          · rw [es'] at s
            rw [ep2] at q
            exact mu t (by omega) s q
        | grant qd qe => rw [qd] at e0; cases e0
        | both qd qe qe' => rw [qd] at e0; cases e0
      · rw [e1] at ep
        have r3 := no3 e1
        subst r3
        have ep' : ∀ t, t ≠ k → (f.step L k k).ph t = f.ph t := fun t ht => by rw [ep]; exact up _ _ t ht
        have epk : (f.step L k k).ph k = 3 := by rw [ep, upd_same]; rfl
        have only : ∀ t, t < (f.step L k k).s.n → (f.step L k k).s.st t = 1 → (f.step L k k).ph t = 3 → [k] = [t] := fun t ht s q => by
          by_cases c : t = k
          · rw [c]
          · rw [es'] at s
            rw [ep' t c] at q
            have := mu t (by omega) s q
            cases this
        cases st with
        | same q0 q1 qe => exact absurd e1 q1
        | enq qd qe => rw [qd] at e1; cases e1
        | grant qd qe =>
          rw [qe] at m
          match R2, e, m, m2 with
          | [], _, m, _ => cases m
          | t :: r, e, m, m2 =>
            simp only [List.map_cons, List.cons.injEq] at m
            obtain ⟨t1, t2, t3⟩ := m2 t (by simp)
            have tk : t = k := one_loc h t1 hk m.1 (has_loc h t1 (.inl ⟨t2, by omega⟩)) lk2
            subst tk
            have nodup : t ∉ r := fun hm => by
              have hq := h.glo.qf.nodup
              rw [qe] at hq
              have := (List.nodup_cons.1 (List.nodup_append.1 hq).2.1).1
              exact this (by rw [← m.2]; exact List.mem_map_of_mem hm)
            refine ⟨_, _, _, _, R, a, ⟨[t], r, e, by rw [nd']; exact m.2, fun u hu' => ?_, fun u hu' => ?_, only, by simp⟩, .same (by rw [hd, qd]) (by rw [hd]) rfl⟩
            · obtain ⟨u1, u2, u3⟩ := m2 u (by simp [hu'])
              have ut : u ≠ t := fun q => nodup (q ▸ hu')
              exact ⟨by omega, by rw [es']; exact u2, by rw [ep' u ut]; exact u3⟩
            · obtain rfl : u = t := by simpa using hu'
              exact ⟨by omega, by rw [es']; exact s1, epk⟩
        | both qd qe qe' =>
          rw [qe] at m
          obtain rfl : R2 = [] := List.map_eq_nil_iff.1 m
          rw [qe'] at a
          refine ⟨_, _, _, _, R ++ [k], a, ⟨[k], [], by rw [e]; rfl, rfl, by simp, fun u hu' => ?_, only, by simp⟩, .arr (by rw [hd, qd]) rfl⟩
          obtain rfl : u = k := by simpa using hu'
          exact ⟨by omega, by rw [es']; exact s1, epk⟩
    · obtain ⟨hd, a, es, ep⟩ := h.stpL3 h1 hk hu s1 p
      obtain ⟨R3, R2, e, m, m2, m3, mu, ml⟩ := hr.ex
      have r3 := mu k hk s1 p
      subst r3
      have hn' : (f.step L k k).s.n = f.s.n := f.s.fin_n _ _
      refine ⟨_, _, _, _, R2, a, ⟨[], R2, rfl, by rw [nd']; exact m, fun t ht => ?_, by simp, fun t ht s q => ?_, by simp⟩, .lead hd e⟩
      · obtain ⟨t1, t2, t3⟩ := m2 t ht
        have tk : t ≠ k := fun q => by subst q; omega
        exact ⟨by omega, by rw [es]; exact (up _ _ t tk).trans t2, by rw [ep]; exact (up _ _ t tk).trans t3⟩
      · by_cases c : t = k
        · subst c
          rw [es] at s
          have : (2 : Int) = 1 := (upd_same _ _ _).symm.trans s
          cases this
        · rw [es] at s
          rw [ep, up _ _ t c] at q
          have s' : f.s.st t = 1 := (up f.s.st 2 t c).symm.trans s
          have := mu t (by omega) s' q
          simp only [List.cons.injEq, and_true] at this
          exact absurd this.symm c
  by_cases s3 : f.s.st k = 3
  · have hp : f.ph k = 0 ∨ f.ph k = 1 ∨ f.ph k = 2 ∨ f.ph k = 3 ∨ f.ph k = 4 ∨ f.ph k = 5 := by cases hx <;> omega
    have ks : ∀ s : SS, s = f.s → s.st = upd f.s.st k 3 := fun s e => by rw [e]; exact (upd_idx _ _ s3).symm
    rcases hp with p | p | p | p | p | p
    · by_cases hw : wP f.ps (f.nd k) < f.bud
      · obtain ⟨hd, a, es, ep⟩ := h.stpU0a h1 hk hu s3 p hw
        exact ⟨_, _, _, _, R, a, key a (ks _ es) ep (by omega) (by omega), .same (by rw [hd]; rfl) (by rw [hd]; rfl) rfl⟩
      · obtain ⟨hd, a, es, ep⟩ := h.stpU0b h1 hk hu s3 p hw
        exact ⟨_, _, _, _, R, a, key a (ks _ es) ep (by omega) (by omega), .same (by rw [hd]; rfl) (by rw [hd]; rfl) rfl⟩
    · obtain ⟨x, _, hd, a, es, ep⟩ := h.stpU1 hk hu s3 p
      exact ⟨_, _, _, _, R, a, key a (ks _ es) ep (by omega) (by omega), .same (by rw [hd]; rfl) (by rw [hd]; rfl) rfl⟩
    · obtain ⟨hd, a, es, ep⟩ := h.stpU2 h1 hk hu s3 p
      exact ⟨_, _, _, _, R, a, key a (ks _ es) ep (by omega) (by omega), .same (by rw [hd]; rfl) (by rw [hd]; rfl) rfl⟩
    · obtain ⟨hd, a, es, ep⟩ := h.stpU3 h1 hk hu s3 p
      exact ⟨_, _, _, _, R, a, key a (ks _ es) ep (by omega) (by omega), .same (by rw [hd]; rfl) (by rw [hd]; rfl) rfl⟩
    · obtain ⟨gg', hd, a, es, ⟨_, ep⟩ | ⟨_, ep⟩⟩ := h.stpU4 hk hu s3 p
      · exact ⟨_, _, _, _, R, a, key a (ks _ es) (p := 4) (by rw [ep]; exact (upd_idx _ _ p).symm) (by omega) (by omega), .same (by rw [hd]; rfl) (by rw [hd]; rfl) rfl⟩
      · exact ⟨_, _, _, _, R, a, key a (ks _ es) ep (by omega) (by omega), .same (by rw [hd]; rfl) (by rw [hd]; rfl) rfl⟩
    · rcases h.stpU5 hk hu s3 p with ⟨hd, a, es, ep⟩ | ⟨hd, a, es, ep⟩
      · exact ⟨_, _, _, _, R, a, key a (ks _ es) (p := 5) (by rw [ep]; exact (upd_idx _ _ p).symm) (by omega) (by omega), .same (by rw [hd]; rfl) (by rw [hd]; rfl) rfl⟩
      · exact ⟨_, _, _, _, R, a, key a (x := 0) (p := 0) (by rw [es]; rfl) ep (by omega) (by omega), .same (by rw [hd]) (by rw [hd]) rfl⟩
  have s4 : f.s.st k ≠ 4 := by cases hx <;> omega
  obtain ⟨e1, e2⟩ := OrdJ.at_idle (L := L) (u := (k : Int)) hk s1 s3 s4
  rw [e1, e2]
  exact ⟨_, _, _, _, R, h, hr, .same rfl rfl rfl⟩
/-- its calls -/
theorem Row.seats {s' : SS} {R : List Nat} (hr : Row f Wg R) {k : Nat} {y : Int} (hn : s'.n = f.s.n) (hs : s'.st = upd f.s.st k y) (hb : f.s.st k = 0 ∨ f.s.st k = 2) (hp : f.ph k = 0) : Row { f with s := s' } Wg R := by
  refine hr.keep (k := k) hn rfl (fun t ht => by show s'.st t = _; rw [hs]; exact upd_other _ _ ht) (fun t ht => rfl) (fun a b => by omega) fun a b => ?_
  have b : f.ph k = 3 := b
  omega
end
/-- all that is known of a lock, and of a law's list of who waits for the lock of all -/
def OrdL (f : FL) (R : List Nat) : Prop := ∃ H V gg Wg, OrdJ f f.ga f.la H V gg Wg ∧ Row f Wg R
namespace OrdL
variable {f : FL} {R : List Nat} {L : Lp}
theorem lock (h : OrdL f R) (t d : Int) : OrdL (f.lock t d) R := by
  obtain ⟨H, V, gg, Wg, h, hr⟩ := h
  refine ⟨H, V, gg, Wg, h.lock t d, ?_⟩
  unfold FL.lock SS.lock
  split
  · rename_i e
    unfold lockE at e
    split at e
    · rename_i ht
      obtain ⟨k, rfl⟩ := Int.eq_ofNat_of_zero_le ht.1.1
      split at e
      · rename_i s0
        rw [Int.toNat_natCast] at s0 ⊢
        have hx := h.cor.cx k (by omega)
        exact hr.seats (s' := f.s.set k 1 d) (k := k) (y := 1) rfl rfl (.inl s0) (by cases hx <;> omega)
      · omega
    · omega
  · exact hr
theorem unlock (h : OrdL f R) (t : Int) : OrdL (f.turn t 3) R := by
  obtain ⟨H, V, gg, Wg, h, hr⟩ := h
  refine ⟨H, V, gg, Wg, h.unlock t, ?_⟩
  unfold FL.turn SS.turn
  split
  · rename_i e
    unfold turnE at e
    split at e
    · rename_i ht
      obtain ⟨k, rfl⟩ := Int.eq_ofNat_of_zero_le ht.1
      rw [Int.toNat_natCast] at e ⊢
      split at e
      · omega
      · split at e
        · rename_i s2
          have hx := h.cor.cx k (by omega)
          exact hr.seats (s' := f.s.set k 3 (f.s.dl k)) (k := k) (y := 3) rfl rfl (.inr s2) (by cases hx <;> omega)
        · omega
    · omega
  · exact hr
theorem len (h : OrdL f R) : R.length ≤ 9 := by
  obtain ⟨H, V, gg, Wg, h, hr⟩ := h
  obtain ⟨R3, R2, e, m, _, _, _, ml⟩ := hr.ex
  have hq := h.glo.qf
  have hw : Wg.length ≤ 8 := by
    have nd := (List.nodup_append.1 hq.nodup).2.1
    have lt : ∀ c ∈ Wg, c < 8 := fun c hc => by
      have := hq.lt c (List.mem_append_right _ hc)
      have n8 := hq.n8
      omega
    have h2 := List.Nodup.length_le_of_subset (l₂ := List.range 8) nd fun x hx => List.mem_range.2 (lt x hx)
    rw [List.length_range] at h2
    exact h2
  rw [e, List.length_append]
  have : R2.length = Wg.length := by rw [← m, List.length_map]
  omega
theorem step (h : OrdL f R) (h1 : L.a1 = 0) (t : Int) : ∃ R', OrdL (f.step L t t) R' ∧ (f.step L t t).ps.D.length ≤ f.ps.D.length + 1 ∧ ((∃ k : Nat, t = k ∧ StepL R k (f.did L t t) R') ∨ (f.did L t t = Dd.no ∧ R' = R)) := by
  obtain ⟨H, V, gg, Wg, h, hr⟩ := h
  by_cases ht : 0 ≤ t ∧ t < f.s.n
  · obtain ⟨k, rfl⟩ := Int.eq_ofNat_of_zero_le ht.1
    obtain ⟨H', V', gg', Wg', R', a, b, c⟩ := hr.step (L := L) h h1 (k := k) (by omega)
    refine ⟨R', ⟨H', V', gg', Wg', ?_, b⟩, (f.step_one L k k).D, .inl ⟨k, rfl, c⟩⟩
    have e : (f.step L k k).ga = f.ga ∧ (f.step L k k).la = f.la := ⟨a.adr.1.trans h.adr.1.symm ▸ rfl, a.adr.2.trans h.adr.2.symm ▸ rfl⟩
    rw [e.1, e.2]
    exact a
  · obtain ⟨e1, e2⟩ := OrdJ.at_none (L := L) (u := t) ht
    rw [e1, e2]
    exact ⟨R, ⟨H, V, gg, Wg, h, hr⟩, by omega, .inr ⟨rfl, rfl⟩⟩
end OrdL
end Go.Proofs.YtkmikkjjnbikdaaGreat
