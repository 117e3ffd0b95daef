/- If all call a hierarchical CLH lock and step by turns, each turn brings them on, or finds nothing to do; no walk. -/
import Derived.Test.YteacdcdjdbobnaaHierOrd
namespace Go.Proofs.Yteacdcdjdbobnaa
set_option linter.unusedVariables false
set_option maxRecDepth 100000

/-! ### all by turns -/
def wgt (f : FL) (left : Nat → Nat) (k : Nat) : Nat := 13 * left k + phs (f.s.st k) (f.pc k)
/-- how much is to do -/
def todo (f : FL) (left : Nat → Nat) : Nat := sumN (wgt f left) f.s.n
theorem todo_upd {f f' : FL} {left left' : Nat → Nat} {k : Nat} (hk : k < f.s.n) (hn : f'.s.n = f.s.n) (hs : ∀ j, j ≠ k → f'.s.st j = f.s.st j) (hp : ∀ j, j ≠ k → f'.pc j = f.pc j) (hl : ∀ j, j ≠ k → left' j = left j) :
    todo f' left' + wgt f left k = todo f left + wgt f' left' k := by
  have := sumN_upd (w := wgt f left) (w' := wgt f' left') (n := f.s.n) hk fun j e => by unfold wgt; rw [hs j e, hp j e, hl j e]
  unfold todo
  rw [hn]
  omega
theorem st_set (s : SS) (k : Nat) (x d : Int) (j : Nat) : (s.set k x d).st j = upd s.st k x j := rfl
/-- what a context does behind its event -/
theorem fin_st (s : SS) {k : Nat} (hk : k < s.n) (ev : Int) : (s.fin k ev).st k = (behindI (s.st k) ev).getD (s.st k) := by
  cases h : behindI (s.st k) ev with
  | none => rw [fin_none h]; rfl
  | some y => rw [fin_some hk h]; exact upd_same _ _ _
theorem OrdJ.Stp.y {f : FL} {g g' : Option Nat} {Q Q' : List Nat} {W W' : Nat → List Nat} {L : Lp} {k : Nat} {y : Int} (hk : k < f.s.n) (hs : Stp f (f.step L k k) g Q W k (f.did L k k) g' Q' W' y) : y = (behindI (f.s.st k) (f.did L k k).ev).getD (f.s.st k) := by
  have h1 := hs.st k
  rw [upd_same] at h1
  rw [← h1]
  exact fin_st f.s hk _
/-- nothing to do, or another one must come on -/
def HaltT (f : FL) (k : Nat) : Prop := (f.s.st k = 1 ∧ f.pc k = 2 ∧ (wCl (wX f.ps (f.aN k)) = f.cl k ∧ wSp (wX f.ps (f.aN k)) = 0) ∧ wWt (wX f.ps (f.aN k)) = 1) ∨ (f.s.st k = 1 ∧ f.pc k = 7 ∧ wWt (wX f.ps (f.aN k)) = 1)
def Stuck (f : FL) (left : Nat → Nat) (k : Nat) : Prop := (f.s.st k = 0 ∧ left k = 0) ∨ HaltT f k
/-- is there anything to do? -/
def Busy (f : FL) (left : Nat → Nat) (k : Nat) : Prop := 0 < left k ∨ f.s.st k ≠ 0
/-- if nobody can go on, all are Idle -/
theorem all_idle {f : FL} {g : Option Nat} {Q : List Nat} {W : Nat → List Nat} (ho : OrdJ f g Q W) (hs : ∀ k, k < f.s.n → f.s.st k = 0 ∨ HaltT f k) : ∀ k, k < f.s.n → f.s.st k = 0 := by
  obtain ⟨P, F, c⟩ := ho.cor
  have hr : ∀ k, k < f.s.n → f.ro k = .idle ∨ (f.ro k = .loc ∧ wCl (wX f.ps (f.aN k)) = f.cN k ∧ wSp (wX f.ps (f.aN k)) = 0 ∧ wWt (wX f.ps (f.aN k)) = 1) ∨ (f.ro k = .glo ∧ wWt (wX f.ps (f.aN k)) = 1) := fun k hk => by
    rcases hs k hk with q | ⟨q1, q2, ⟨q3, q4⟩, q5⟩ | ⟨q1, q2, q3⟩
    · exact .inl (roI q)
    · refine .inr (.inl ⟨ro2 q1 q2, ?_, q4, q5⟩)
      have := ho.cls k hk
      rw [q3]; unfold FL.cN; omega
    · exact .inr (.inr ⟨ro7 q1 q2, q3⟩)
  have hQ : Q = [] := by
    cases hq : Q with
    | nil => rfl
    | cons x r =>
      exfalso
      have hx := c.ql x (by rw [hq]; exact List.mem_cons_self)
      have hA := (c.hq x r hq).1
      have hW := c.xf
      rcases hr x hx with q | ⟨_, _, _, q⟩ | ⟨_, q⟩
      · exact (c.ri x hx (.inl q)).1 (by rw [hq]; exact List.mem_cons_self)
      · rw [hA] at q; omega
      · rw [hA] at q; omega
  intro k hk
  have main : ∀ k, k < f.s.n → f.ro k = .idle := fun k hk => by
    rcases hr k hk with q | ⟨q, q1, q2, q3⟩ | ⟨q, _⟩
    · exact q
    · exfalso
      have hm : k ∈ W (f.cN k) := by
        rcases c.rl k hk q with w | w
        · rw [hQ] at w; cases w
        · exact w
      have hne : W (f.cN k) ≠ [] := fun e => by rw [e] at hm; cases hm
      cases hw : W (f.cN k) with
      | nil => exact hne hw
      | cons x r =>
        have hxm : x ∈ W (f.cN k) := by rw [hw]; exact List.mem_cons_self
        obtain ⟨hx, hcx⟩ := c.wl _ x hxm
        rcases hr x hx with w | ⟨w, w1, w2, w3⟩ | ⟨w, _⟩
        · exact (c.ri x hx (.inl w)).2 (by rw [hcx]; exact hxm)
        · obtain ⟨a1, a2⟩ := c.hw _ x r hw w
          rcases (c.st _ a2).2 with b | ⟨m, m1, m2, p, m3⟩
          · rw [a1, hcx] at w1
            rw [a1] at w2
            rcases b with b | b
            · exact b w2
            · exact b w1
          · have := (pre_mem (c.rs m m1 p _ m3).2.2.1.choose_spec.2.1).1
            rw [hQ] at this; cases this
        · have := c.rg x hx w
          rw [hQ] at this; cases this
    · have := c.rg k hk q
      rw [hQ] at this; cases this
  rcases hs k hk with q | ⟨q1, q2, _⟩ | ⟨q1, q2, _⟩
  · exact q
  · have := main k hk; rw [ro2 q1 q2] at this; cases this
  · have := main k hk; rw [ro7 q1 q2] at this; cases this
/-- a step where nothing comes of it -/
theorem halt_same {f f' : FL} {k : Nat} (hs : f'.s = f.s) (hc : f'.cl = f.cl) (hp : ∀ j, f'.pc j = f.pc j) (hn : ∀ j, f'.ahd j = f.ahd j) (hw : f'.ps.ws = f.ps.ws) : HaltT f k ↔ HaltT f' k := by
  obtain ⟨_, _, wx⟩ := ws_same hw
  unfold HaltT FL.aN
  rw [hs, hp, hn, wx, hc]

structure SvI (f : FL) (c : Nat) (left grants : Nat → Nat) : Prop where
  ord : ∃ g Q W, OrdJ f g Q W
  stx : ∀ k, k < f.s.n → f.s.st k = 0 ∨ (f.s.st k = 1 ∧ f.pc k ≠ 0) ∨ f.s.st k = 3
  cnt : ∀ k, k < f.s.n → grants k + left k + (if f.s.st k = 1 then 1 else 0) = c
theorem SvI.start {f : FL} {c : Nat} {left grants : Nat → Nat} {R : List Nat} (hO : OrdI f R) (hst : ∀ k, f.s.st k = 0) (hc : ∀ k, k < f.s.n → grants k + left k + (if f.s.st k = 1 then 1 else 0) = c) : SvI f c left grants := by
  obtain ⟨g, Q, W, hO, _⟩ := hO
  exact ⟨⟨g, Q, W, hO⟩, fun k _ => .inl (hst k), hc⟩
theorem SvI.at_idle {f : FL} {c : Nat} {left grants : Nat → Nat} {L : Lp} (h : SvI f c left grants) {k : Nat} (hk : k < f.s.n) (s0 : f.s.st k = 0) : f.did L k k = Dd.no :=
  (OrdJ.at_idle hk (by omega) (by omega)).1
theorem todo_start {f : FL} (hst : ∀ k, f.s.st k = 0) {n c : Nat} (hn : n = f.s.n) : todo f (fun k => if k < n then c else 0) = 13 * c * f.s.n := by
  unfold todo
  rw [sumN_same (w := fun _ => 13 * c) (fun k hk => by unfold wgt; rw [hst k]; show 13 * (if k < n then c else 0) + phs 0 (f.pc k) = 13 * c; rw [if_pos (by omega)]; rfl), sumN_const]

/-- one calls, and stores its word -/
theorem SvI.calls {f : FL} {c : Nat} {left grants : Nat → Nat} {L : Lp} (h : SvI f c left grants) (h1 : L.a1 = 0) (h2 : L.a2 = 1) {k : Nat} (hk : k < f.s.n) (s0 : f.s.st k = 0) (hl : 0 < left k) :
    lockE f.s k (-1) = 0 ∧ (f.lock k (-1)).did L k k = ⟨0, false, false, false⟩ ∧ SvI ((f.lock k (-1)).step L k k) c (upd left k (left k - 1)) grants ∧
      todo ((f.lock k (-1)).step L k k) (upd left k (left k - 1)) + 1 ≤ todo f left ∧ ((f.lock k (-1)).step L k k).s = f.s.set k 1 (-1) ∧ ((f.lock k (-1)).step L k k).ps.D.length ≤ f.ps.D.length + 1 := by
  obtain ⟨g, Q, W, ho⟩ := h.ord
  have el : lockE f.s k (-1) = 0 := by unfold lockE; rw [if_pos ⟨by omega, .inl rfl⟩, Int.toNat_natCast, if_pos s0]
  have ef : f.lock k (-1) = { f with s := f.s.set k 1 (-1) } := by unfold FL.lock SS.lock; rw [if_pos el, Int.toNat_natCast]
  have ho1 := ho.lock k (-1)
  rw [ef] at ho1 ⊢
  have p0 : f.pc k = 0 := ho.pcI k hk (by omega) (by omega)
  obtain ⟨F, hF⟩ : ∃ F : FL, F = { f with s := f.s.set k 1 (-1) } := ⟨_, rfl⟩
  rw [← hF] at ho1 ⊢
  have Fs : F.s = f.s.set k 1 (-1) := by rw [hF]
  have Fp : F.pc = f.pc := by rw [hF]
  have FP : F.ps = f.ps := by rw [hF]
  have Fsn : F.s.n = f.s.n := by rw [Fs]; rfl
  have s1 : F.s.st k = 1 := by rw [Fs]; exact upd_same _ _ _
  have Fpk : F.pc k = 0 := by rw [Fp]; exact p0
  have hdid : F.did L k k = Dd.no := by
    rw [(OrdJ.at_one (L := L) (f := F) (k := k) (by omega) s1).1]
    unfold FL.acqD
    rw [if_pos Fpk]
  have hpc : (F.step L k k).pc k = 1 := by
    rw [(OrdJ.at_one (L := L) (f := F) (k := k) (by omega) s1).2]
    unfold FL.acq
    rw [if_pos Fpk]
    exact upd_same _ _ _
  have hstep : (F.step L k k).s = F.s := by
    show F.s.fin k (F.did L k k).ev = F.s
    rw [hdid]
    exact fin_no F.s k
  obtain ⟨g', Q', W', y, hs⟩ := ho1.stp h1 h2 (k := k) (by omega)
  refine ⟨el, hdid, ⟨⟨g', Q', W', hs.ord⟩, fun j hj => ?_, fun j hj => ?_⟩, ?_, hstep.trans Fs, ?_⟩
  · rw [hstep, Fs, st_set]
    by_cases e : j = k
    · subst e; rw [upd_same, hpc]; exact .inr (.inl ⟨rfl, by decide⟩)
    · rw [upd_other _ _ e, (hs.oth j e).1, Fp]; exact h.stx j (by rw [hstep, Fs] at hj; exact hj)
  · rw [hstep, Fs, st_set]
    have := h.cnt j (by rw [hstep, Fs] at hj; exact hj)
    by_cases e : j = k
    · subst e
      rw [upd_same, upd_same, if_pos rfl]
      rw [s0, if_neg (by decide)] at this
      omega
    · rw [upd_other _ _ e, upd_other _ _ e]; exact this
  · have ht := todo_upd (f := f) (f' := F.step L k k) (left := left) (left' := upd left k (left k - 1)) hk (by rw [hstep, Fs]; rfl) (fun j e => by rw [hstep, Fs, st_set, upd_other _ _ e]) (fun j e => by rw [(hs.oth j e).1, Fp]) (fun j e => upd_other _ _ e)
    have w1 : wgt (F.step L k k) (upd left k (left k - 1)) k = 13 * (left k - 1) + 11 := by
      unfold wgt
      rw [upd_same, hpc, hstep, s1]; rfl
    have w0 : wgt f left k = 13 * left k := by unfold wgt; rw [s0]; rfl
    omega
  · rw [← FP]; exact hs.D
/-- one is granted the lock, and begins to give it back -/
theorem SvI.grant {f : FL} {c : Nat} {left grants : Nat → Nat} {L : Lp} (h : SvI f c left grants) (h1 : L.a1 = 0) (h2 : L.a2 = 1) {k : Nat} (hk : k < f.s.n) (hn : ¬ (f.s.st k = 0 ∧ 0 < left k)) (he : (f.did L k k).ev = 1) :
    (∃ b, f.did L k k = ⟨1, false, false, b⟩) ∧ turnE (f.step L k k).s k = 0 ∧ SvI ((f.step L k k).turn k 3) c left (upd grants k (grants k + 1)) ∧ todo ((f.step L k k).turn k 3) left + 1 ≤ todo f left ∧
      (∀ j, ((f.step L k k).turn k 3).s.st j = upd f.s.st k 3 j) ∧ ((f.step L k k).turn k 3).s.n = f.s.n ∧ (f.step L k k).ps.D.length ≤ f.ps.D.length + 1 := by
  obtain ⟨g, Q, W, ho⟩ := h.ord
  obtain ⟨g', Q', W', y, hs⟩ := ho.stp h1 h2 hk
  obtain ⟨s1, rfl, hb⟩ := hs.ev he
  obtain ⟨G, hG⟩ : ∃ G, G = f.step L k k := ⟨_, rfl⟩
  rw [← hG] at hs ⊢
  have s2 : G.s.st k = 2 := by rw [hs.st]; exact upd_same _ _ _
  have et : turnE G.s k = 0 := by
    unfold turnE
    rw [if_pos ⟨by omega, by rw [hs.n]; omega⟩, Int.toNat_natCast, s2]; rfl
  have ho3 := hs.ord.turn (k : Int)
  have ef : G.turn k 3 = { G with s := G.s.set k 3 (G.s.dl k) } := by
    unfold FL.turn SS.turn
    rw [if_pos et, Int.toNat_natCast]
  have p1 : G.pc k = 0 := hs.ord.pcI k (by rw [hs.n]; exact hk) (by omega) (by omega)
  obtain ⟨F, hF⟩ : ∃ F, F = G.turn k 3 := ⟨_, rfl⟩
  rw [← hF] at ho3 ⊢
  have ef : F = { G with s := G.s.set k 3 (G.s.dl k) } := hF.trans ef
  have Fs : F.s = G.s.set k 3 (G.s.dl k) := by rw [ef]
  have Fp : F.pc = G.pc := by rw [ef]
  have FP : F.ps = G.ps := by rw [ef]
  have stj : ∀ j, F.s.st j = upd f.s.st k 3 j := fun j => by
    rw [Fs, st_set]
    by_cases q : j = k
    · subst q; rw [upd_same, upd_same]
    · rw [upd_other _ _ q, upd_other _ _ q, hs.st, upd_other _ _ q]
  have Fn : F.s.n = f.s.n := by rw [Fs]; exact hs.n
  refine ⟨hb, et, ⟨⟨_, _, _, ho3⟩, fun j hj => ?_, fun j hj => ?_⟩, ?_, stj, Fn, hs.D⟩
  · rw [stj]
    by_cases e : j = k
    · subst e; rw [upd_same]; exact .inr (.inr rfl)
    · rw [upd_other _ _ e, Fp, (hs.oth j e).1]; exact h.stx j (by rw [← Fn]; exact hj)
  · rw [stj]
    have := h.cnt j (by rw [← Fn]; exact hj)
    by_cases e : j = k
    · subst e
      rw [upd_same, upd_same, if_neg (by decide)]
      rw [s1, if_pos rfl] at this
      omega
    · rw [upd_other _ _ e, upd_other _ _ e]; exact this
  · have ht := todo_upd (f := f) (f' := F) (left := left) (left' := left) hk Fn (fun j e => by rw [stj, upd_other _ _ e]) (fun j e => by rw [Fp, (hs.oth j e).1]) (fun _ _ => rfl)
    have w1 : wgt F left k = 13 * left k + 3 := by
      unfold wgt
      rw [stj, upd_same, Fp, p1]; rfl
    have w0 : wgt f left k = 13 * left k + phs 1 (f.pc k) := by unfold wgt; rw [s1]
    have hp := ho.prg k
    have : 5 ≤ phs 1 (f.pc k) := by show 5 ≤ (12 - f.pc k).toNat; omega
    omega
theorem acqD_ev (f : FL) (L : Lp) (t : Nat) (u : Int) : (f.acqD L t u).ev ≠ 2 ∧ (f.acqD L t u).ev ≠ 6 := by
  unfold FL.acqD
  repeat' split
  all_goals exact ⟨by decide, by decide⟩
theorem relD_ev (f : FL) (L : Lp) (t : Nat) (u : Int) : (f.relD L t u).ev ≠ 2 ∧ (f.relD L t u).ev ≠ 6 := by
  unfold FL.relD
  repeat' split
  all_goals exact ⟨by decide, by decide⟩
theorem did_ev (f : FL) (L : Lp) (t u : Int) : (f.did L t u).ev ≠ 2 ∧ (f.did L t u).ev ≠ 6 := by
  unfold FL.did
  split
  · split
    · exact acqD_ev f L _ u
    · split
      · exact relD_ev f L _ u
      · exact ⟨by decide, by decide⟩
  · exact ⟨by decide, by decide⟩
/-- neither: one comes on, or nothing comes of it -/
theorem SvI.other {f : FL} {c : Nat} {left grants : Nat → Nat} {L : Lp} (h : SvI f c left grants) (h1 : L.a1 = 0) (h2 : L.a2 = 1) {k : Nat} (hk : k < f.s.n) (hn : ¬ (f.s.st k = 0 ∧ 0 < left k)) (he : (f.did L k k).ev ≠ 1) :
    SvI (f.step L k k) c left grants ∧ ((todo (f.step L k k) left + 1 ≤ todo f left) ∨ (todo (f.step L k k) left = todo f left ∧ Stuck (f.step L k k) left k ∧ ∀ j, Stuck f left j → Stuck (f.step L k k) left j)) ∧
      (∀ j, j ≠ k → (f.step L k k).s.st j = f.s.st j) ∧ (f.step L k k).s.n = f.s.n ∧ (f.step L k k).ps.D.length ≤ f.ps.D.length + 1 := by
  obtain ⟨g, Q, W, ho⟩ := h.ord
  obtain ⟨g', Q', W', y, hs⟩ := ho.stp h1 h2 hk
  have hy := OrdJ.Stp.y hk hs
  obtain ⟨ev2, ev6⟩ := did_ev f L k k
  have hx : (f.s.st k = 0 ∧ y = 0) ∨ (f.s.st k = 1 ∧ y = 1) ∨ (f.s.st k = 3 ∧ (y = 3 ∨ y = 0)) := by
    rcases h.stx k hk with q | ⟨q, _⟩ | q
    · refine .inl ⟨q, ?_⟩
      rw [hy, q]
      unfold behindI
      rw [if_neg (by omega), if_neg (by omega), if_neg (by omega), if_neg (by omega)]; rfl
    · refine .inr (.inl ⟨q, ?_⟩)
      rw [hy, q]
      unfold behindI
      rw [if_neg (by omega), if_neg (by omega), if_neg (by omega), if_neg (by omega)]; rfl
    · refine .inr (.inr ⟨q, ?_⟩)
      rw [hy, q]
      unfold behindI
      rw [if_neg (by omega), if_neg (by omega)]
      split
      · exact .inr rfl
      · rw [if_neg (by omega)]; exact .inl rfl
  have ht := todo_upd (f := f) (f' := f.step L k k) (left := left) (left' := left) hk hs.n (fun j e => by rw [hs.st, upd_other _ _ e]) (fun j e => (hs.oth j e).1) (fun _ _ => rfl)
  have w1 : wgt (f.step L k k) left k = 13 * left k + phs y ((f.step L k k).pc k) := by
    unfold wgt
    rw [hs.st, upd_same]
  have w0 : wgt f left k = 13 * left k + phs (f.s.st k) (f.pc k) := rfl
  have hpc : f.s.st k = 1 → (f.step L k k).pc k ≠ 0 := fun s1 => by
    have hat := OrdJ.at_one (L := L) hk s1
    rw [hat.1] at he
    rw [hat.2]
    show (f.acq L k k).pc k ≠ 0
    have hp0 : f.pc k ≠ 0 := by rcases h.stx k hk with q | ⟨_, q⟩ | q <;> first | exact q | omega
    unfold FL.acqD at he
    unfold FL.acq
    rw [if_neg hp0] at he ⊢
    have hp := ho.prg k
    split
    · simp only [upd_same]; split <;> decide
    · rename_i p1
      rw [if_neg p1] at he
      split
      · rename_i p2
        rw [if_pos p2] at he
        simp only [upd_same]
        split
        · rename_i q
          split
          · rename_i q2
            rw [if_pos ⟨q, q2⟩] at he
            exact absurd rfl he
          · decide
        · decide
      · rename_i p2
        rw [if_neg p2] at he
        split
        · simp only [upd_same]; decide
        · rename_i p3
          rw [if_neg p3] at he
          split
          · simp only [upd_same]; decide
          · rename_i p4
            rw [if_neg p4] at he
            split
            · simp only [upd_same]; decide
            · rename_i p5
              rw [if_neg p5] at he
              split
              · simp only [upd_same]; split <;> decide
              · rename_i p6
                rw [if_neg p6] at he
                simp only [upd_same]
                split
                · rename_i q
                  rw [if_pos q] at he
                  exact absurd rfl he
                · decide
  refine ⟨⟨⟨g', Q', W', hs.ord⟩, fun j hj => ?_, fun j hj => ?_⟩, ?_, fun j e => by rw [hs.st, upd_other _ _ e], hs.n, hs.D⟩
  · rw [hs.st]
    by_cases e : j = k
    · subst e
      rw [upd_same]
      rcases hx with q | q | q
      · exact .inl q.2
      · exact .inr (.inl ⟨q.2, hpc q.1⟩)
      · rcases q.2 with w | w
        · exact .inr (.inr w)
        · exact .inl w
    · rw [upd_other _ _ e, (hs.oth j e).1]; exact h.stx j (by rw [← hs.n]; exact hj)
  · rw [hs.st]
    have := h.cnt j (by rw [← hs.n]; exact hj)
    by_cases e : j = k
    · subst e
      rw [upd_same]
      rcases hx with q | q | q
      · rw [q.2, if_neg (by decide)]; rw [q.1, if_neg (by decide)] at this; exact this
      · rw [q.2, if_pos rfl]; rw [q.1, if_pos rfl] at this; exact this
      · rw [if_neg (by omega)]; rw [q.1, if_neg (by decide)] at this; exact this
    · rw [upd_other _ _ e]; exact this
  · rcases hs.on with q | ⟨q1, q2, q3, q4, q5⟩
    · exact .inl (by omega)
    · have epc : ∀ j, (f.step L k k).pc j = f.pc j := fun j => by
        by_cases e : j = k
        · subst e; exact q3
        · exact (hs.oth j e).1
      have eah : ∀ j, (f.step L k k).ahd j = f.ahd j := fun j => by
        by_cases e : j = k
        · subst e; exact q4
        · exact (hs.oth j e).2
      have key : ∀ j, Stuck f left j → Stuck (f.step L k k) left j := fun j hj => by
        unfold Stuck at hj ⊢
        rw [← halt_same q2 hs.cl epc eah q5, q2]
        exact hj
      have hyy : y = f.s.st k := by
        have := hs.st k
        rw [q2, upd_same] at this
        exact this.symm
      refine .inr ⟨by rw [hyy, q3] at w1; omega, key k ?_, key⟩
      unfold Stuck HaltT
      rcases q1 with q | q | q | q
      · exact .inl ⟨q, by
          rcases Nat.eq_zero_or_pos (left k) with w | w
          · exact w
          · exact absurd ⟨q, w⟩ hn⟩
      · rcases h.stx k hk with w | w | w <;> omega
      · exact .inr (.inl q)
      · exact .inr (.inr q)
/-- if nobody can go on, nobody has anything to do -/
theorem SvI.rest {f : FL} {c : Nat} {left grants : Nat → Nat} (h : SvI f c left grants) (hs : ∀ k, k < f.s.n → Stuck f left k) : ∀ k, k < f.s.n → ¬ Busy f left k := by
  obtain ⟨g, Q, W, ho⟩ := h.ord
  have hi := all_idle ho fun k hk => by
    rcases hs k hk with q | q
    · exact .inl q.1
    · exact .inr q
  intro k hk hb
  have s0 := hi k hk
  rcases hs k hk with q | q | q
  · rcases hb with w | w
    · omega
    · exact w s0
  · have := q.1; omega
  · have := q.1; omega
end Go.Proofs.Yteacdcdjdbobnaa
