/- If all call an abortable lock and step by turns, each turn brings them on, or finds nothing to do; and so it is if they only come to their ends; no walk. -/
import Derived.Test.YtdhpmcafekpfhaaAbortOrd
namespace Go.Proofs.Ytdhpmcafekpfhaa
set_option linter.unusedVariables false
set_option maxRecDepth 100000

/-! ### all by turns -/
def wgt (f : FL) (left : Nat → Nat) (k : Nat) : Nat := 30 * left k + phs f.ea (f.s.st k) (f.pc k) (f.tr k)
/-- how much is to do -/
def todo (f : FL) (left : Nat → Nat) : Nat := sumN (wgt f left) f.s.n + 6 * cO f.ps (f.s.n * f.ea)
/-- whoever k is, none of the others' numbers turn -/
theorem todo_upd {f f' : FL} {left left' : Nat → Nat} {k : Nat} (hk : k < f.s.n) (hn : f'.s.n = f.s.n) (he : f'.ea = f.ea) (hs : ∀ j, j ≠ k → f'.s.st j = f.s.st j) (hp : ∀ j, j ≠ k → f'.pc j = f.pc j) (ht : ∀ j, j ≠ k → f'.tr j = f.tr j) (hl : ∀ j, j ≠ k → left' j = left j) :
    todo f' left' + wgt f left k + 6 * cO f.ps (f.s.n * f.ea) = todo f left + wgt f' left' k + 6 * cO f'.ps (f.s.n * f.ea) := by
  have := sumN_upd (w := wgt f left) (w' := wgt f' left') (n := f.s.n) hk fun j e => by unfold wgt; rw [he, hs j e, hp j e, ht j e, hl j e]
  unfold todo
  rw [hn, he]
  omega
theorem st_set (s : SS) (k : Nat) (x d : Int) (j : Nat) : (s.set k x d).st j = upd s.st k x j := rfl
/-- what a context does behind its event -/
theorem fin_st (s : SS) {k : Nat} (hk : k < s.n) (ev : Int) : (s.fin k ev).st k = (behindI (s.st k) ev).getD (s.st k) := by
  cases h : behindI (s.st k) ev with
  | none => rw [fin_none h]; rfl
  | some y => rw [fin_some hk h]; exact upd_same _ _ _
theorem OrdJ.Stp.y {f : FL} {g g' : Option Nat} {Q Q' : List Nat} {L : Lp} {k : Nat} {x y : Int} (hk : k < f.s.n) (hs : Stp f (f.step L k k x) g Q k x (f.did L k k x) g' Q' y) : y = (behindI (f.s.st k) (f.did L k k x).ev).getD (f.s.st k) := by
  have h1 := hs.st k
  rw [upd_same] at h1
  rw [← h1]
  exact fin_st f.s hk _
/-- nothing to do, or another one must come on -/
def HaltT (f : FL) (x : Int) (k : Nat) : Prop := (f.s.st k = 1 ∧ f.pc k = 7 ∧ wS f.ps (f.nd k).toNat = 0 ∧ ¬ f.due k x) ∨ (f.s.st k = 3 ∧ f.pc k = 3 ∧ wN f.ps (f.nd k).toNat = 0)
def Stuck (f : FL) (left : Nat → Nat) (k : Nat) : Prop := (f.s.st k = 0 ∧ left k = 0) ∨ HaltT f 0 k
/-- is there anything to do? -/
def Busy (f : FL) (left : Nat → Nat) (k : Nat) : Prop := 0 < left k ∨ f.s.st k ≠ 0
/-- if nobody can go on, all are Idle -/
theorem all_idle {f : FL} {g : Option Nat} {Q : List Nat} (ho : OrdJ f g Q) {x : Int} (hs : ∀ k, k < f.s.n → f.s.st k = 0 ∨ HaltT f x k) : Q = [] ∧ ∀ k, k < f.s.n → f.s.st k = 0 := by
  have hq : Q = [] := by
    cases Q with
    | nil => rfl
    | cons i r =>
      exfalso
      cases hg : g with
      | none =>
        obtain ⟨q1, p, a, q2, q3⟩ := ho.cor.hd hg i r rfl
        have hk := (ho.cor.rng i (by simp)).2
        obtain ⟨u, hu⟩ : ∃ u, u = ownN f.ea i := ⟨_, rfl⟩
        rw [← hu] at q2 hk
        rcases hs u hk with w | ⟨w1, w2, w3, _⟩ | ⟨w1, w2, w3⟩
        · rw [ro_idle w] at q2; cases q2
        · obtain ⟨i1, e1⟩ := Int.eq_ofNat_of_zero_le (ho.nds u)
          obtain ⟨a1, e2⟩ := Int.eq_ofNat_of_zero_le (ho.ots u)
          rw [ro_wait (p := 7) w1 w2 (by omega) e1 e2] at q2
          obtain ⟨rfl, _⟩ : i1 = i ∧ _ := by simpa using q2
          rw [e1] at w3
          have : wS f.ps i1 = 0 := w3
          omega
        · obtain ⟨i1, e1⟩ := Int.eq_ofNat_of_zero_le (ho.nds u)
          obtain ⟨a1, e2⟩ := Int.eq_ofNat_of_zero_le (ho.ots u)
          rw [ro_un (p := 3) w1 w2 (by omega) e1 e2] at q2
          cases q2
      | some t =>
        obtain ⟨ht, i0, r0, p, b, hQ, q2, q3⟩ := ho.cor.gs t hg
        obtain ⟨rfl, rfl⟩ : i = i0 ∧ r = r0 := by simpa using hQ
        obtain ⟨i1, e1⟩ := Int.eq_ofNat_of_zero_le (ho.nds t)
        obtain ⟨a1, e2⟩ := Int.eq_ofNat_of_zero_le (ho.ots t)
        rcases hs t ht with w | ⟨w1, w2, w3, _⟩ | ⟨w1, w2, w3⟩
        · rw [ro_idle w] at q2; cases q2
        · rw [ro_wait (p := 7) w1 w2 (by omega) e1 e2] at q2; cases q2
        · have hr := ro_un (p := 3) w1 w2 (by omega) e1 e2
          rw [hr] at q2
          obtain ⟨rfl, _⟩ : i1 = i ∧ _ := by simpa using q2
          rw [e1] at w3
          have w3 : wN f.ps i1 = 0 := w3
          rcases ho.cor.nextOf with ⟨q5, _⟩ | ⟨j, r', q5, q6, q7 | q7⟩
          · subst q5
            exact ho.cor.u3 t i1 a1 hg hr rfl
          · subst q5
            have hj := (ho.cor.rng j (by simp)).2
            obtain ⟨u, hu⟩ : ∃ u, u = ownN f.ea j := ⟨_, rfl⟩
            have q8 := q7.2
            rw [← hu] at q8 hj
            obtain ⟨i2, e3⟩ := Int.eq_ofNat_of_zero_le (ho.nds u)
            obtain ⟨a2, e4⟩ := Int.eq_ofNat_of_zero_le (ho.ots u)
            rcases hs u hj with v | ⟨v1, v2, _, _⟩ | ⟨v1, v2, _⟩
            · rw [ro_idle v] at q8; cases q8
            · rw [ro_wait (p := 7) v1 v2 (by omega) e3 e4] at q8
              have : 7 = 6 := by simpa using (Ro.wait.inj q8).2.1
              omega
            · rw [ro_un (p := 3) v1 v2 (by omega) e3 e4] at q8; cases q8
          · have := q6.1; omega
  refine ⟨hq, fun k hk => ?_⟩
  subst hq
  rcases hs k hk with w | ⟨w1, w2, w3, _⟩ | ⟨w1, w2, w3⟩
  · exact w
  · obtain ⟨i1, e1⟩ := Int.eq_ofNat_of_zero_le (ho.nds k)
    obtain ⟨a1, e2⟩ := Int.eq_ofNat_of_zero_le (ho.ots k)
    have := (ho.cor.wt k hk i1 7 a1 (ro_wait (p := 7) w1 w2 (by omega) e1 e2)).2.2.1
    cases this
  · obtain ⟨i1, e1⟩ := Int.eq_ofNat_of_zero_le (ho.nds k)
    obtain ⟨a1, e2⟩ := Int.eq_ofNat_of_zero_le (ho.ots k)
    have hg := ho.cor.ho k hk _ _ _ (ro_un (p := 3) w1 w2 (by omega) e1 e2)
    obtain ⟨_, i0, r0, p, b, hQ, _⟩ := ho.cor.gs k hg
    cases hQ
/-- a step where nothing comes of it -/
theorem halt_same {f f' : FL} {k : Nat} {x : Int} (hs : f'.s = f.s) (hp : ∀ j, f'.pc j = f.pc j) (hn : ∀ j, f'.nd j = f.nd j) (hw : f'.ps.ws = f.ps.ws) : HaltT f x k ↔ HaltT f' x k := by
  obtain ⟨_, ws, wn, _⟩ := ws_same hw
  unfold HaltT FL.due
  rw [hs, hp, hn, ws, wn]

structure SvI (f : FL) (c : Nat) (left grants : Nat → Nat) : Prop where
  ord : ∃ g Q, OrdJ f g Q ∧ Loc f Q
  stx : ∀ k, k < f.s.n → f.s.st k = 0 ∨ f.s.st k = 1 ∨ f.s.st k = 3
  cnt : ∀ k, k < f.s.n → grants k + left k + (if f.s.st k = 1 then 1 else 0) = c
theorem Loc.idle {f : FL} (hst : ∀ k, f.s.st k = 0) : Loc f [] :=
  ⟨fun j hj => (by cases hj), fun t _ i p b w => (by rw [ro_idle (hst t)] at w; cases w), fun t _ i w => (by rw [ro_idle (hst t)] at w; cases w), fun t _ w => (by rw [hst t] at w; omega), fun t _ w => (by rw [hst t] at w; omega), fun t _ w => (by rw [hst t] at w; omega)⟩
theorem SvI.start {f : FL} {c : Nat} {left grants : Nat → Nat} {g : Option Nat} (hO : OrdJ f g []) (hst : ∀ k, f.s.st k = 0) (hc : ∀ k, k < f.s.n → grants k + left k + (if f.s.st k = 1 then 1 else 0) = c) : SvI f c left grants :=
  ⟨⟨g, [], hO, Loc.idle hst⟩, fun k _ => .inl (hst k), hc⟩
theorem SvI.at_idle {f : FL} {c : Nat} {left grants : Nat → Nat} {L : Lp} (h : SvI f c left grants) {k : Nat} (x : Int) (hk : k < f.s.n) (s0 : f.s.st k = 0) : f.did L k k x = Dd.no :=
  (OrdJ.at_idle hk (by omega) (by omega)).1
theorem todo_start {f : FL} (hst : ∀ k, f.s.st k = 0) (hO : cO f.ps (f.s.n * f.ea) = 0) {n c : Nat} (hn : n = f.s.n) : todo f (fun k => if k < n then c else 0) = 30 * c * f.s.n := by
  unfold todo
  rw [hO, sumN_same (w := fun _ => 30 * c) (fun k hk => by unfold wgt; rw [hst k]; show 30 * (if k < n then c else 0) + phs f.ea 0 (f.pc k) (f.tr k) = 30 * c; rw [if_pos (by omega)]; rfl), sumN_const]
  omega

/-- one calls, and does its first step -/
theorem SvI.calls {f : FL} {c : Nat} {left grants : Nat → Nat} {L : Lp} (h : SvI f c left grants) (h1 : L.a1 = 0) (h2 : L.a2 = 1) {k : Nat} (hk : k < f.s.n) (s0 : f.s.st k = 0) (hl : 0 < left k) :
    lockE f.s k (-1) = 0 ∧ (f.lock k (-1)).did L k k 0 = ⟨0, false, false, false⟩ ∧ SvI ((f.lock k (-1)).step L k k 0) c (upd left k (left k - 1)) grants ∧
      todo ((f.lock k (-1)).step L k k 0) (upd left k (left k - 1)) + 1 ≤ todo f left ∧ ((f.lock k (-1)).step L k k 0).s = f.s.set k 1 (-1) ∧ ((f.lock k (-1)).step L k k 0).ps.D.length ≤ f.ps.D.length + 1 := by
  obtain ⟨g, Q, ho, hL⟩ := h.ord
  have el : lockE f.s k (-1) = 0 := by unfold lockE; rw [if_pos ⟨by omega, .inl rfl⟩, Int.toNat_natCast, if_pos s0]
  have ef : f.lock k (-1) = { f with s := f.s.set k 1 (-1) } := by unfold FL.lock SS.lock; rw [if_pos el, Int.toNat_natCast]
  have ho1 := ho.lock k (-1)
  rw [ef] at ho1 ⊢
  have p1 : f.pc k = 1 := ho.pcI k hk (by omega) (by omega)
  have t0 : f.tr k = 0 := (ho.trg k hk).2.2 (by omega)
  have e8 := ho.e8
  obtain ⟨F, hF⟩ : ∃ F : FL, F = { f with s := f.s.set k 1 (-1) } := ⟨_, rfl⟩
  rw [← hF] at ho1 ⊢
  have Fs : F.s = f.s.set k 1 (-1) := by rw [hF]
  have Fp : F.pc = f.pc := by rw [hF]
  have Fn : F.nd = f.nd := by rw [hF]
  have Fo : F.oth = f.oth := by rw [hF]
  have Ft : F.tr = f.tr := by rw [hF]
  have Fe : F.ea = f.ea := by rw [hF]
  have FP : F.ps = f.ps := by rw [hF]
  have Fsn : F.s.n = f.s.n := by rw [Fs]; rfl
  have s1 : F.s.st k = 1 := by rw [Fs]; exact upd_same _ _ _
  have hro : ∀ u, u ≠ k → F.ro u = f.ro u := OrdJ.ro_other (y := 1) (fun j => by rw [Fs]; rfl) (fun j _ => by rw [Fp]) (fun j _ => by rw [Fn]) (fun j _ => by rw [Fo])
  have hlook : F.ro k = .look := ro_look s1 (by rw [Fp]; exact p1)
  have hL1 : Loc F Q := by
    refine ⟨fun j hj => by rw [FP]; exact hL.up j hj, fun t ht i p b w => ?_, fun t ht i w => ?_, fun t ht w => ?_, fun t ht w w2 => ?_, fun t ht w => ?_⟩
    · rw [Fe]
      by_cases q : t = k
      · subst q; rw [hlook] at w; cases w
      · exact hL.ho t (by omega) i p b (by rw [← hro t q]; exact w)
    · rw [Fe]
      by_cases q : t = k
      · subst q; rw [hlook] at w; cases w
      · exact hL.de t (by omega) i (by rw [← hro t q]; exact w)
    · rw [Fs] at w ⊢
      by_cases q : t = k
      · subst q; show upd f.s.dl t (-1) t < 0; rw [upd_same]; decide
      · show upd f.s.dl k (-1) t < 0
        rw [upd_other _ _ q]
        rw [st_set, upd_other _ _ q] at w
        exact hL.dl t (by omega) w
    · rw [Ft]
      by_cases q : t = k
      · subst q; exact t0
      · rw [Fs, st_set, upd_other _ _ q] at w
        rw [Fp] at w2
        exact hL.tr t (by omega) w w2
    · rw [Fp]
      by_cases q : t = k
      · subst q; omega
      · rw [Fs, st_set, upd_other _ _ q] at w
        exact hL.p8 t (by omega) w
  obtain ⟨g', Q', y, hs⟩ := ho1.stp h1 h2 0 (k := k) (by omega)
  obtain ⟨hL2, hv2, hv6⟩ := hs.loc hL1
  -- what it tells
  have hdid : F.did L k k 0 = Dd.no := by
    have hat := (OrdJ.at_one (L := L) (x := 0) (f := F) (k := k) (by omega) s1).1
    rw [hat]
    unfold FL.acqD at hat ⊢
    rw [if_pos (by rw [Fp]; exact p1)] at hat ⊢
    split
    · rename_i w
      rw [if_pos w] at hat
      rw [hat] at hv6
      exact absurd rfl hv6
    · rfl
  have hstep : (F.step L k k 0).s = F.s := by
    show F.s.fin k (F.did L k k 0).ev = F.s
    rw [hdid]
    exact fin_no F.s k
  have hon : phs F.ea y ((F.step L k k 0).pc k) ((F.step L k k 0).tr k) + 6 * cO (F.step L k k 0).ps (F.s.n * F.ea) + 1 ≤ phs F.ea (F.s.st k) (F.pc k) (F.tr k) + 6 * cO F.ps (F.s.n * F.ea) := by
    rcases hs.on with w | ⟨w, _⟩
    · exact w
    · rcases w with w | w | w | w
      · omega
      · omega
      · have := w.2.1; rw [Fp] at this; omega
      · omega
  refine ⟨el, hdid, ⟨⟨g', Q', hs.ord, hL2⟩, fun j hj => ?_, fun j hj => ?_⟩, ?_, hstep.trans Fs, ?_⟩
  · rw [hstep, Fs, st_set]
    by_cases e : j = k
    · subst e; rw [upd_same]; exact .inr (.inl rfl)
    · rw [upd_other _ _ e]; exact h.stx j (by rw [hstep, Fs] at hj; exact hj)
  · rw [hstep, Fs, st_set]
    have := h.cnt j (by rw [hstep, Fs] at hj; exact hj)
    by_cases e : j = k
    · subst e
      rw [upd_same, upd_same, if_pos rfl]
      rw [s0, if_neg (by decide)] at this
      omega
    · rw [upd_other _ _ e, upd_other _ _ e]; exact this
  · have ht := todo_upd (f := f) (f' := F.step L k k 0) (left := left) (left' := upd left k (left k - 1)) hk (by rw [hstep, Fs]; rfl) (by rw [hs.ea, Fe]) (fun j e => by rw [hstep, Fs, st_set, upd_other _ _ e]) (fun j e => by rw [(hs.oth j e).1, Fp]) (fun j e => by rw [(hs.oth j e).2.2.1, Ft]) (fun j e => upd_other _ _ e)
    have w1 : wgt (F.step L k k 0) (upd left k (left k - 1)) k = 30 * (left k - 1) + phs f.ea y ((F.step L k k 0).pc k) ((F.step L k k 0).tr k) := by
      unfold wgt
      rw [upd_same, hs.ea, Fe, hs.st k, upd_same]
    have w0 : wgt f left k = 30 * left k := by unfold wgt; rw [s0]; rfl
    rw [s1, Fp, Ft, p1, t0, FP, Fe, Fsn] at hon
    have hph : phs f.ea 1 1 0 ≤ 29 := by show (21 + (f.ea : Int) - 0).toNat ≤ 29; omega
    rw [w1, w0] at ht
    omega
  · rw [← FP]; exact hs.D
/-- one is granted the lock, and begins to give it back -/
theorem SvI.grant {f : FL} {c : Nat} {left grants : Nat → Nat} {L : Lp} (h : SvI f c left grants) (h1 : L.a1 = 0) (h2 : L.a2 = 1) {k : Nat} (hk : k < f.s.n) (hn : ¬ (f.s.st k = 0 ∧ 0 < left k)) (he : (f.did L k k 0).ev = 1) :
    (∃ b, f.did L k k 0 = ⟨1, b, false, false⟩) ∧ turnE (f.step L k k 0).s k = 0 ∧ SvI ((f.step L k k 0).turn k 3) c left (upd grants k (grants k + 1)) ∧ todo ((f.step L k k 0).turn k 3) left + 1 ≤ todo f left ∧
      (∀ j, ((f.step L k k 0).turn k 3).s.st j = upd f.s.st k 3 j) ∧ ((f.step L k k 0).turn k 3).s.n = f.s.n ∧ (f.step L k k 0).ps.D.length ≤ f.ps.D.length + 1 := by
  obtain ⟨g, Q, ho, hL⟩ := h.ord
  obtain ⟨g', Q', y, hs⟩ := ho.stp h1 h2 0 hk
  obtain ⟨s1, rfl, hb⟩ := hs.ev he
  obtain ⟨hL2, _, _⟩ := hs.loc hL
  obtain ⟨G, hG⟩ : ∃ G, G = f.step L k k 0 := ⟨_, rfl⟩
  rw [← hG] at hs hL2 ⊢
  have s2 : G.s.st k = 2 := by rw [hs.st]; exact upd_same _ _ _
  have et : turnE G.s k = 0 := by
    unfold turnE
    rw [if_pos ⟨by omega, by rw [hs.n]; omega⟩, Int.toNat_natCast, s2]; rfl
  have ho3 := hs.ord.turn (k : Int)
  have ef : G.turn k 3 = { G with s := G.s.set k 3 (G.s.dl k) } := by
    unfold FL.turn SS.turn
    rw [if_pos et, Int.toNat_natCast]
  have p1 : G.pc k = 1 := hs.ord.pcI k (by rw [hs.n]; exact hk) (by omega) (by omega)
  obtain ⟨F, hF⟩ : ∃ F, F = G.turn k 3 := ⟨_, rfl⟩
  rw [← hF] at ho3 ⊢
  have ef : F = { G with s := G.s.set k 3 (G.s.dl k) } := hF.trans ef
  have Fs : F.s = G.s.set k 3 (G.s.dl k) := by rw [ef]
  have Fp : F.pc = G.pc := by rw [ef]
  have Fn : F.nd = G.nd := by rw [ef]
  have Fo : F.oth = G.oth := by rw [ef]
  have Ft : F.tr = G.tr := by rw [ef]
  have Fe : F.ea = G.ea := by rw [ef]
  have FP : F.ps = G.ps := by rw [ef]
  have stj : ∀ j, F.s.st j = upd f.s.st k 3 j := fun j => by
    rw [Fs, st_set]
    unfold upd
    split
    · rfl
    · rename_i q
      rw [hs.st, upd_other _ _ q]
  have nn : F.s.n = f.s.n := by rw [Fs]; exact hs.n
  have hro : ∀ u, u ≠ k → F.ro u = G.ro u := OrdJ.ro_other (y := 3) (fun j => by rw [Fs]; rfl) (fun j _ => by rw [Fp]) (fun j _ => by rw [Fn]) (fun j _ => by rw [Fo])
  obtain ⟨i1, e1⟩ := Int.eq_ofNat_of_zero_le (hs.ord.nds k)
  obtain ⟨a1, e2⟩ := Int.eq_ofNat_of_zero_le (hs.ord.ots k)
  have hGk := ro_has s2 e1 e2
  have hFk : F.ro k = .hold i1 1 a1 := ro_un (p := 1) (by rw [stj]; exact upd_same _ _ _) (by rw [Fp]; exact p1) (by omega) (by rw [Fn]; exact e1) (by rw [Fo]; exact e2)
  have hL3 : Loc F Q' := by
    have nG := hs.n
    refine ⟨fun j hj => by rw [FP]; exact hL2.up j hj, fun t ht i p b w => ?_, fun t ht i w => ?_, fun t ht w => ?_, fun t ht w w2 => ?_, fun t ht w => ?_⟩
    · rw [Fe]
      by_cases q : t = k
      · subst q
        rw [hFk] at w
        obtain ⟨rfl, _⟩ : i1 = i ∧ _ := by simpa using w
        exact hL2.ho t (by omega) _ _ _ hGk
      · exact hL2.ho t (by omega) i p b (by rw [← hro t q]; exact w)
    · rw [Fe]
      by_cases q : t = k
      · subst q; rw [hFk] at w; cases w
      · exact hL2.de t (by omega) i (by rw [← hro t q]; exact w)
    · rw [Fs, st_set] at w
      by_cases q : t = k
      · subst q; rw [upd_same] at w; omega
      · rw [upd_other _ _ q] at w
        rw [Fs]
        show upd G.s.dl k _ t < 0
        rw [upd_other _ _ q]
        exact hL2.dl t (by omega) w
    · rw [Fs, st_set] at w
      by_cases q : t = k
      · subst q; rw [upd_same] at w; omega
      · rw [upd_other _ _ q] at w
        rw [Ft]
        rw [Fp] at w2
        exact hL2.tr t (by omega) w w2
    · rw [Fs, st_set] at w
      by_cases q : t = k
      · subst q; rw [upd_same] at w; omega
      · rw [upd_other _ _ q] at w
        rw [Fp]
        exact hL2.p8 t (by omega) w
  refine ⟨hb, et, ⟨⟨g', Q', ho3, hL3⟩, fun j hj => ?_, fun j hj => ?_⟩, ?_, stj, nn, hs.D⟩
  · rw [stj]
    by_cases e : j = k
    · subst e; rw [upd_same]; exact .inr (.inr rfl)
    · rw [upd_other _ _ e]; exact h.stx j (by rw [← nn]; exact hj)
  · rw [stj]
    have := h.cnt j (by rw [← nn]; exact hj)
    by_cases e : j = k
    · subst e
      rw [upd_same, upd_same, if_neg (by decide)]
      rw [s1, if_pos rfl] at this
      omega
    · rw [upd_other _ _ e, upd_other _ _ e]; exact this
  · have ht := todo_upd (f := f) (f' := F) (left := left) (left' := left) hk nn (by rw [Fe, hs.ea]) (fun j e => by rw [stj, upd_other _ _ e]) (fun j e => by rw [Fp, (hs.oth j e).1]) (fun j e => by rw [Ft, (hs.oth j e).2.2.1]) (fun _ _ => rfl)
    have w1 : wgt F left k = 30 * left k + 6 := by
      unfold wgt
      rw [stj, upd_same, Fp, p1]; rfl
    rw [w1, FP] at ht
    have hon := hs.on
    have hw : wgt f left k = 30 * left k + phs f.ea (f.s.st k) (f.pc k) (f.tr k) := rfl
    have e7 : phs f.ea 2 (G.pc k) (G.tr k) = 7 := rfl
    rcases hon with w | ⟨_, _, w, _⟩
    · rw [e7] at w
      omega
    · rw [w] at s2; omega
/-- neither: one comes on, or nothing comes of it -/
theorem SvI.other {f : FL} {c : Nat} {left grants : Nat → Nat} {L : Lp} (h : SvI f c left grants) (h1 : L.a1 = 0) (h2 : L.a2 = 1) {k : Nat} (hk : k < f.s.n) (hn : ¬ (f.s.st k = 0 ∧ 0 < left k)) (he : (f.did L k k 0).ev ≠ 1) :
    SvI (f.step L k k 0) c left grants ∧ ((todo (f.step L k k 0) left + 1 ≤ todo f left) ∨ (todo (f.step L k k 0) left = todo f left ∧ Stuck (f.step L k k 0) left k ∧ ∀ j, Stuck f left j → Stuck (f.step L k k 0) left j)) ∧
      (∀ j, j ≠ k → (f.step L k k 0).s.st j = f.s.st j) ∧ (f.step L k k 0).s.n = f.s.n ∧ (f.step L k k 0).ps.D.length ≤ f.ps.D.length + 1 := by
  obtain ⟨g, Q, ho, hL⟩ := h.ord
  obtain ⟨g', Q', y, hs⟩ := ho.stp h1 h2 0 hk
  obtain ⟨hL2, hv2, hv6⟩ := hs.loc hL
  have hy := OrdJ.Stp.y hk hs
  have hx : (f.s.st k = 0 ∧ y = 0) ∨ (f.s.st k = 1 ∧ y = 1) ∨ (f.s.st k = 3 ∧ (y = 3 ∨ y = 0)) := by
    rcases h.stx k hk with q | q | q
    · refine .inl ⟨q, ?_⟩
      rw [hy, q]
      unfold behindI
      rw [if_neg (by omega), if_neg (by omega), if_neg (by omega), if_neg (by omega)]; rfl
    · refine .inr (.inl ⟨q, ?_⟩)
      rw [hy, q]
      unfold behindI
      rw [if_neg (by omega), if_neg (by omega), if_neg (by omega), if_neg (by omega)]; rfl
    · refine .inr (.inr ⟨q, ?_⟩)
      rw [hy, q]
      unfold behindI
      rw [if_neg (by omega), if_neg (by omega)]
      split
      · exact .inr rfl
      · rw [if_neg (by omega)]; exact .inl rfl
  have ht := todo_upd (f := f) (f' := f.step L k k 0) (left := left) (left' := left) hk hs.n hs.ea (fun j e => by rw [hs.st, upd_other _ _ e]) (fun j e => (hs.oth j e).1) (fun j e => (hs.oth j e).2.2.1) (fun _ _ => rfl)
  have w1 : wgt (f.step L k k 0) left k = 30 * left k + phs f.ea y ((f.step L k k 0).pc k) ((f.step L k k 0).tr k) := by
    unfold wgt
    rw [hs.ea, hs.st, upd_same]
  have w0 : wgt f left k = 30 * left k + phs f.ea (f.s.st k) (f.pc k) (f.tr k) := rfl
  refine ⟨⟨⟨g', Q', hs.ord, hL2⟩, fun j hj => ?_, fun j hj => ?_⟩, ?_, fun j e => by rw [hs.st, upd_other _ _ e], hs.n, hs.D⟩
  · rw [hs.st]
    by_cases e : j = k
    · subst e; rw [upd_same]; omega
    · rw [upd_other _ _ e]; exact h.stx j (by rw [← hs.n]; exact hj)
  · rw [hs.st]
    have := h.cnt j (by rw [← hs.n]; exact hj)
    by_cases e : j = k
    · subst e
      rw [upd_same]
      rcases hx with q | q | q
      · rw [q.2, if_neg (by decide)]; rw [q.1, if_neg (by decide)] at this; exact this
      · rw [q.2, if_pos rfl]; rw [q.1, if_pos rfl] at this; exact this
      · rw [if_neg (by omega)]; rw [q.1, if_neg (by decide)] at this; exact this
    · rw [upd_other _ _ e]; exact this
  · rcases hs.on with q | ⟨q1, q2, q3, q4, q5, q6, q7⟩
    · exact .inl (by omega)
    · have epc : ∀ j, (f.step L k k 0).pc j = f.pc j := fun j => by
        by_cases e : j = k
        · subst e; exact q4
        · exact (hs.oth j e).1
      have end' : ∀ j, (f.step L k k 0).nd j = f.nd j := fun j => by
        by_cases e : j = k
        · subst e; exact q5
        · exact (hs.oth j e).2.1
      have key : ∀ j, Stuck f left j → Stuck (f.step L k k 0) left j := fun j hj => by
        unfold Stuck at hj ⊢
        rw [← halt_same q3 epc end' q7, q3]
        exact hj
      obtain ⟨_, _, _, wo⟩ := ws_same q7
      have hc : cO (f.step L k k 0).ps (f.s.n * f.ea) = cO f.ps (f.s.n * f.ea) := cO_same wo _
      have hyy : y = f.s.st k := by
        have := hs.st k
        rw [q3, upd_same] at this
        exact this.symm
      refine .inr ⟨by rw [hyy, q4, q6] at w1; omega, key k ?_, key⟩
      unfold Stuck HaltT
      rcases q1 with q | q | q | q
      · exact .inl ⟨q, by
          rcases Nat.eq_zero_or_pos (left k) with w | w
          · exact w
          · exact absurd ⟨q, w⟩ hn⟩
      · rcases h.stx k hk with w | w | w <;> omega
      · exact .inr (.inl q)
      · exact .inr (.inr q)
/-- if nobody can go on, nobody has anything to do -/
theorem SvI.rest {f : FL} {c : Nat} {left grants : Nat → Nat} (h : SvI f c left grants) (hs : ∀ k, k < f.s.n → Stuck f left k) : ∀ k, k < f.s.n → ¬ Busy f left k := by
  obtain ⟨g, Q, ho, _⟩ := h.ord
  have hi := (all_idle ho (x := 0) fun k hk => by
    rcases hs k hk with q | q
    · exact .inl q.1
    · exact .inr q).2
  intro k hk hb
  have s0 := hi k hk
  rcases hs k hk with q | q | q
  · rcases hb with w | w
    · omega
    · exact w s0
  · have := q.1; omega
  · have := q.1; omega

/-! ### all come to their ends -/
def zeroL : Nat → Nat := fun _ => 0
/-- whoever holds the lock gives it back, and does a step -/
def FL.back (f : FL) (L : Lp) (k : Nat) (x : Int) : FL := (if f.s.st k = 2 then f.turn k 3 else f).step L k k x
theorem back_one {f : FL} {g : Option Nat} {Q : List Nat} {L : Lp} (ho : OrdJ f g Q) (h1 : L.a1 = 0) (h2 : L.a2 = 1) {k : Nat} (hk : k < f.s.n) (x : Int) :
    ∃ g' Q', OrdJ (f.back L k x) g' Q' ∧ (f.back L k x).s.n = f.s.n ∧ (f.back L k x).ps.D.length ≤ f.ps.D.length + 1 ∧ (∀ j, j ≠ k → (f.back L k x).s.st j = f.s.st j) ∧
      (todo (f.back L k x) zeroL + 1 ≤ todo f zeroL ∨ (todo (f.back L k x) zeroL = todo f zeroL ∧ ((f.back L k x).s.st k = 0 ∨ HaltT (f.back L k x) x k) ∧ ∀ j, (f.s.st j = 0 ∨ HaltT f x j) → ((f.back L k x).s.st j = 0 ∨ HaltT (f.back L k x) x j))) := by
  unfold FL.back
  obtain ⟨F, hF⟩ : ∃ F, F = (if f.s.st k = 2 then f.turn k 3 else f) := ⟨_, rfl⟩
  rw [← hF]
  have key : OrdJ F g Q ∧ F.s.n = f.s.n ∧ F.ea = f.ea ∧ F.ps = f.ps ∧ F.pc = f.pc ∧ F.nd = f.nd ∧ F.tr = f.tr ∧ (∀ j, j ≠ k → F.s.st j = f.s.st j ∧ F.s.dl j = f.s.dl j) ∧ F.s.st k ≠ 2 ∧ phs f.ea (F.s.st k) (F.pc k) (F.tr k) ≤ phs f.ea (f.s.st k) (f.pc k) (f.tr k) ∧ (f.s.st k ≠ 2 → F = f) ∧ (f.s.st k = 2 → F.s.st k = 3 ∧ F.pc k = 1) := by
    by_cases q : f.s.st k = 2
    · rw [if_pos q] at hF
      have et : turnE f.s k = 0 := by
        unfold turnE
        rw [if_pos ⟨by omega, by omega⟩, Int.toNat_natCast, q]; rfl
      have ef : f.turn k 3 = { f with s := f.s.set k 3 (f.s.dl k) } := by
        unfold FL.turn SS.turn
        rw [if_pos et, Int.toNat_natCast]
      have ho2 := ho.turn (k : Int)
      have p1 : f.pc k = 1 := ho.pcI k hk (by omega) (by omega)
      rw [ef] at hF ho2
      have Fst : F.s.st k = 3 := by rw [hF]; exact upd_same _ _ _
      refine ⟨by rw [hF]; exact ho2, by rw [hF]; rfl, by rw [hF], by rw [hF], by rw [hF], by rw [hF], by rw [hF], fun j e => by rw [hF]; exact ⟨upd_other _ _ e, upd_other _ _ e⟩, by omega, ?_, fun w => absurd q w, fun _ => ⟨Fst, by rw [hF]; exact p1⟩⟩
      rw [Fst, q, show F.pc k = 1 by rw [hF]; exact p1, p1]
      exact (by decide : (6 : Nat) ≤ 7)
    · rw [if_neg q] at hF
      subst hF
      exact ⟨ho, rfl, rfl, rfl, rfl, rfl, rfl, fun _ _ => ⟨rfl, rfl⟩, q, Nat.le_refl _, fun _ => rfl, fun w => absurd w q⟩
  clear hF
  obtain ⟨hoF, Fn, Fe, FP, Fpc, Fnd, Ftr, Fj, F2, Fph, Fsame, Fturn⟩ := key
  obtain ⟨g', Q', y, hs⟩ := hoF.stp h1 h2 x (k := k) (by omega)
  have st' : ∀ j, j ≠ k → (F.step L k k x).s.st j = f.s.st j := fun j e => by rw [hs.st, upd_other _ _ e, (Fj j e).1]
  refine ⟨g', Q', hs.ord, hs.n.trans Fn, by rw [← FP]; exact hs.D, st', ?_⟩
  have ht := todo_upd (f := f) (f' := F.step L k k x) (left := zeroL) (left' := zeroL) hk (hs.n.trans Fn) (hs.ea.trans Fe) st' (fun j e => by rw [(hs.oth j e).1, Fpc]) (fun j e => by rw [(hs.oth j e).2.2.1, Ftr]) (fun _ _ => rfl)
  have w1 : wgt (F.step L k k x) zeroL k = phs f.ea y ((F.step L k k x).pc k) ((F.step L k k x).tr k) := by
    unfold wgt
    rw [hs.ea, Fe, hs.st, upd_same]
    show 30 * 0 + _ = _
    omega
  have w0 : wgt f zeroL k = phs f.ea (f.s.st k) (f.pc k) (f.tr k) := by unfold wgt; show 30 * 0 + _ = _; omega
  rcases hs.on with q | ⟨q1, q2, q3, q4, q5, q6, q7⟩
  · rw [Fe, Fn, FP] at q
    exact .inl (by omega)
  · have hne : f.s.st k ≠ 2 := fun w => by
      obtain ⟨w1, w2⟩ := Fturn w
      rcases q1 with q | q | q | q
      · omega
      · omega
      · omega
      · omega
    have := Fsame hne
    subst this
    have epc : ∀ j, (F.step L k k x).pc j = F.pc j := fun j => by
      by_cases e : j = k
      · subst e; exact q4
      · exact (hs.oth j e).1
    have end' : ∀ j, (F.step L k k x).nd j = F.nd j := fun j => by
      by_cases e : j = k
      · subst e; exact q5
      · exact (hs.oth j e).2.1
    have key : ∀ j, (F.s.st j = 0 ∨ HaltT F x j) → ((F.step L k k x).s.st j = 0 ∨ HaltT (F.step L k k x) x j) := fun j hj => by
      rw [← halt_same q3 epc end' q7, q3]
      exact hj
    obtain ⟨_, _, _, wo⟩ := ws_same q7
    have hc : cO (F.step L k k x).ps (F.s.n * F.ea) = cO F.ps (F.s.n * F.ea) := cO_same wo _
    have hyy : y = F.s.st k := by
      have := hs.st k
      rw [q3, upd_same] at this
      exact this.symm
    refine .inr ⟨by rw [hyy, q4, q6] at w1; omega, key k ?_, key⟩
    unfold HaltT
    rcases q1 with q | q | q | q
    · exact .inl q
    · exact absurd q F2
    · exact .inr (.inl q)
    · exact .inr (.inr q)
/-- how much there can be to do -/
theorem todo_le {f : FL} {g : Option Nat} {Q : List Nat} (ho : OrdJ f g Q) : todo f zeroL ≤ 700 := by
  have e8 := ho.e8
  have n8 := ho.n8
  have a := sumN_le (w := wgt f zeroL) (n := f.s.n) (c := 30) fun k hk => by
    have t := (ho.trg k hk).1
    have p := ho.prg k
    have s := ho.sts k hk
    unfold wgt phs
    show 30 * 0 + _ ≤ 30
    repeat' split
    all_goals omega
  have b := sumN_le (w := fun i => (wO f.ps (i + 1)).toNat) (n := f.s.n * f.ea) (c := 1) fun i hi => by
    rcases ho.cor.ob (i + 1) (by omega) (by omega) with q | q
    · show (wO f.ps (i + 1)).toNat ≤ 1; omega
    · have := q.1; show (wO f.ps (i + 1)).toNat ≤ 1; omega
  have c : f.s.n * f.ea ≤ 8 * 8 := Nat.mul_le_mul n8 e8.2
  unfold todo cO
  omega
/-- all Idle: all is back -/
theorem all_back {f : FL} {g : Option Nat} {Q : List Nat} (ho : OrdJ f g Q) (hs : ∀ k, k < f.s.n → f.s.st k = 0) : wT f.ps = 0 ∧ ∀ i, 1 ≤ i → i ≤ f.s.n * f.ea → wO f.ps i = 0 := by
  obtain ⟨hq, _⟩ := all_idle ho (x := 0) fun k hk => .inl (hs k hk)
  subst hq
  refine ⟨ho.cor.t0 rfl, fun i h1 h2 => ?_⟩
  rcases ho.cor.ob i h1 h2 with q | ⟨_, q | ⟨u, hu, p, _, q⟩ | ⟨u, hu, q⟩⟩
  · exact q
  · cases q
  · rw [ro_idle (hs u hu)] at q; cases q
  · rw [ro_idle (hs u hu)] at q; cases q
end Go.Proofs.Ytdhpmcafekpfhaa
