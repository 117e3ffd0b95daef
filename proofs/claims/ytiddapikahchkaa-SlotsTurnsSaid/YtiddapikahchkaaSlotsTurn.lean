/- If all call a lock with slots and step by turns, each turn brings them on, or finds nothing to do; no walk. -/
import Derived.Test.YtiddapikahchkaaSlotsOrd
namespace Go.Proofs.Ytiddapikahchkaa
set_option linter.unusedVariables false
set_option maxRecDepth 100000

/-! ### sums -/
def sumN (w : Nat → Nat) : Nat → Nat
  | 0 => 0
  | n + 1 => sumN w n + w n
theorem sumN_same {w w' : Nat → Nat} {n : Nat} (h : ∀ k, k < n → w' k = w k) : sumN w' n = sumN w n := by
  induction n with
  | zero => rfl
  | succ n ih => show sumN w' n + w' n = sumN w n + w n; rw [ih fun k hk => h k (by omega), h n (by omega)]
theorem sumN_upd {w w' : Nat → Nat} {n k : Nat} (hk : k < n) (h : ∀ j, j ≠ k → w' j = w j) : sumN w' n + w k = sumN w n + w' k := by
  induction n with
  | zero => omega
  | succ n ih =>
    show sumN w' n + w' n + w k = sumN w n + w n + w' k
    by_cases e : k = n
    · subst e
      rw [sumN_same fun j hj => h j (by omega)]
      omega
    · have := ih (by omega)
      have := h n (fun x => e x.symm)
      omega
theorem sumN_const (c n : Nat) : sumN (fun _ => c) n = c * n := by
  induction n with
  | zero => rfl
  | succ n ih => show sumN _ n + c = _; rw [ih, Nat.mul_succ]

/-! ### all by turns -/
def phs (x p : Int) : Nat := if x = 1 then (if p = 2 then 2 else 3) else if x = 3 then 1 else 0
def wgt (f : FL) (left : Nat → Nat) (k : Nat) : Nat := 4 * left k + phs (f.s.st k) (f.pc k)
/-- how much is to do -/
def todo (f : FL) (left : Nat → Nat) : Nat := sumN (wgt f left) f.s.n
theorem todo_start {f : FL} (hst : ∀ k, f.s.st k = 0) {n c : Nat} (hn : n = f.s.n) : todo f (fun k => if k < n then c else 0) = 4 * c * f.s.n := by
  unfold todo
  rw [sumN_same (w := fun _ => 4 * c) (fun k hk => by unfold wgt; rw [hst k]; show 4 * (if k < n then c else 0) + phs 0 (f.pc k) = 4 * c; rw [if_pos (by omega)]; rfl), sumN_const]
structure SvI (f : FL) (c : Nat) (left grants : Nat → Nat) : Prop where
  ord : ∃ g W nx ow, OrdJ f g W nx ow
  stx : ∀ k, k < f.s.n → f.s.st k = 0 ∨ (f.s.st k = 1 ∧ f.pc k ≠ 0) ∨ f.s.st k = 3
  cnt : ∀ k, k < f.s.n → grants k + left k + (if f.s.st k = 1 then 1 else 0) = c
/-- nothing to do, or its turn hasn't come -/
def Stuck (f : FL) (left : Nat → Nat) (k : Nat) : Prop := (f.s.st k = 0 ∧ left k = 0) ∨ (f.s.st k = 1 ∧ f.ps.ws.getD ((f.own k).toNat + 1) 0 = 0)
/-- is there anything to do? -/
def Busy (f : FL) (left : Nat → Nat) (k : Nat) : Prop := 0 < left k ∨ f.s.st k ≠ 0

theorem st_set (s : SS) (k : Nat) (x d : Int) (j : Nat) : (s.set k x d).st j = upd s.st k x j := rfl

theorem SvI.start {f : FL} {c : Nat} {left grants : Nat → Nat} (hO : OrdI f []) (hst : ∀ k, f.s.st k = 0) (hc : ∀ k, k < f.s.n → grants k + left k + (if f.s.st k = 1 then 1 else 0) = c) : SvI f c left grants := by
  obtain ⟨g, nx, ow, hO⟩ := hO
  exact ⟨⟨g, [], nx, ow, hO⟩, fun k _ => .inl (hst k), hc⟩
theorem SvI.at_idle {f : FL} {c : Nat} {left grants : Nat → Nat} {L : Lp} (h : SvI f c left grants) {k : Nat} (hk : k < f.s.n) (s0 : f.s.st k = 0) : f.did L k k = Dd.no := by
  obtain ⟨g, W, nx, ow, ho⟩ := h.ord
  exact (ho.at_idle hk (by omega) (by omega)).1

/-- one calls, and draws its number -/
theorem SvI.calls {f : FL} {c : Nat} {left grants : Nat → Nat} {L : Lp} (h : SvI f c left grants) (h1 : L.a1 = 0) (h2 : L.a2 = 1) {k : Nat} (hk : k < f.s.n) (s0 : f.s.st k = 0) (hl : 0 < left k) :
    lockE f.s k (-1) = 0 ∧ (f.lock k (-1)).did L k k = ⟨0, true, false, false⟩ ∧ SvI ((f.lock k (-1)).step L k k) c (upd left k (left k - 1)) grants ∧
      todo ((f.lock k (-1)).step L k k) (upd left k (left k - 1)) + 1 = todo f left ∧ ((f.lock k (-1)).step L k k).s = f.s.set k 1 (-1) ∧ ((f.lock k (-1)).step L k k).ps.D.length ≤ f.ps.D.length + 1 := by
  obtain ⟨g, W, nx, ow, ho⟩ := h.ord
  have el : lockE f.s k (-1) = 0 := by unfold lockE; rw [if_pos ⟨by omega, .inl rfl⟩, Int.toNat_natCast, if_pos s0]
  have ef : f.lock k (-1) = { f with s := f.s.set k 1 (-1) } := by unfold FL.lock SS.lock; rw [if_pos el, Int.toNat_natCast]
  have ho1 := ho.lock k (-1)
  rw [ef] at ho1 ⊢
  have hn := ho.idle hk s0
  have hd : f.pc k = 0 := by
    by_cases e : f.pc k = 0
    · exact e
    · exact absurd ((ho.dr k hk).1 e) hn
  have s1 : (f.s.set k 1 (-1)).st k = 1 := upd_same _ _ _
  obtain ⟨e1, e2⟩ := ho1.at_draw h1 (k := k) hk s1 hd
  obtain ⟨_, a2, a3, a4⟩ := do_add ho.ws (show k < f.ps.ac.length by rw [ho.ac]; exact hk)
  have ho2 := ho1.enq (k := k) hk s1 hd a2 a3
  refine ⟨el, e1, ?_, ?_, ?_, ?_⟩
  · rw [e2]
    refine ⟨⟨_, _, _, _, ho2⟩, fun j hj => ?_, fun j hj => ?_⟩
    · show upd f.s.st k 1 j = 0 ∨ (upd f.s.st k 1 j = 1 ∧ upd f.pc k 1 j ≠ 0) ∨ upd f.s.st k 1 j = 3
      by_cases e : j = k
      · subst e; rw [upd_same, upd_same]; exact .inr (.inl ⟨rfl, by decide⟩)
      · rw [upd_other _ _ e, upd_other _ _ e]; exact h.stx j hj
    · show grants j + upd left k (left k - 1) j + (if upd f.s.st k 1 j = 1 then 1 else 0) = c
      have := h.cnt j hj
      by_cases e : j = k
      · subst e
        rw [upd_same, upd_same, if_pos rfl]
        rw [s0, if_neg (by decide)] at this
        omega
      · rw [upd_other _ _ e, upd_other _ _ e]; exact this
  · rw [e2]
    generalize hF : ({ f with s := f.s.set k 1 (-1), pc := upd f.pc k 1, own := upd f.own k ((nx % 4294967296 : Nat) % (f.sz : Int)), ps := doS f.ps k 5 0 0 1 } : FL) = F
    have fs : F.s = f.s.set k 1 (-1) := by rw [← hF]
    have fp : F.pc = upd f.pc k 1 := by rw [← hF]
    have := sumN_upd (w := wgt f left) (w' := wgt F (upd left k (left k - 1))) hk (fun j e => by
      unfold wgt
      rw [fs, fp, upd_other _ _ e, st_set, upd_other _ _ e, upd_other _ _ e])
    have w1 : wgt F (upd left k (left k - 1)) k = 4 * (left k - 1) + 3 := by
      unfold wgt
      rw [fs, fp, upd_same, st_set, upd_same, upd_same]; rfl
    have w0 : wgt f left k = 4 * left k := by unfold wgt; rw [s0]; rfl
    unfold todo
    rw [show F.s.n = f.s.n by rw [fs]; rfl]
    rw [w1, w0] at this
    omega
  · rw [e2]
  · rw [e2]; exact Nat.le_of_eq a4

/-- one is granted the lock, and gives it back -/
theorem SvI.grant {f : FL} {c : Nat} {left grants : Nat → Nat} {L : Lp} (h : SvI f c left grants) (h1 : L.a1 = 0) (h2 : L.a2 = 1) {k : Nat} (hk : k < f.s.n) (hn : ¬ (f.s.st k = 0 ∧ 0 < left k)) (he : (f.did L k k).ev = 1) :
    f.did L k k = ⟨1, false, false, false⟩ ∧ turnE (f.step L k k).s k = 0 ∧ SvI ((f.step L k k).turn k 3) c left (upd grants k (grants k + 1)) ∧ todo ((f.step L k k).turn k 3) left + 1 = todo f left ∧
      (∀ j, ((f.step L k k).turn k 3).s.st j = upd f.s.st k 3 j) ∧ ((f.step L k k).turn k 3).s.n = f.s.n ∧ (f.step L k k).ps.D.length ≤ f.ps.D.length + 1 := by
  obtain ⟨g, W, nx, ow, ho⟩ := h.ord
  rcases h.stx k hk with s0 | ⟨s1, hd⟩ | s3
  · rw [(ho.at_idle (L := L) hk (by omega) (by omega)).1] at he
    exact absurd he (by decide)
  · rcases ho.prg k with q | q | q
    · exact absurd q hd
    · have hm := ho.waits hk s1 hd
      obtain ⟨o, o1, hoo⟩ := ho.ownN (List.mem_append_right _ hm)
      have e0 : f.did L k k = Dd.no := by
        by_cases ht : turnO g ow f.sz = some o
        · exact (ho.at_look h2 hk s1 q hoo o1 ht).1
        · exact (ho.at_wait h2 hk s1 q hoo o1 ht).1
      rw [e0] at he
      exact absurd he (by decide)
    · rcases ho.p2 k hk q with e | ⟨rfl, W', rfl⟩
      · have := ho.stg k e; omega
      obtain ⟨e1, e2, a2, a3, a4⟩ := ho.at_turn h2 hk s1 q
      have ho2 := ho.grant q a2 a3 0
      have ho3 := ho2.turn k
      have s2 : (f.s.set k 2 0).st k = 2 := upd_same _ _ _
      have et : turnE (f.s.set k 2 0) k = 0 := by
        unfold turnE
        rw [if_pos ⟨by omega, show (k : Int) < f.s.n by omega⟩, Int.toNat_natCast, s2]; rfl
      rw [e2]
      generalize doS f.ps k 2 (L.a2 + f.own k) 0 0 = ps at *
      have ef : ({ f with s := f.s.set k 2 0, ps := ps } : FL).turn k 3 = { f with s := (f.s.set k 2 0).set k 3 0, ps := ps } := by
        unfold FL.turn SS.turn
        rw [if_pos et, Int.toNat_natCast]
        congr 2
        exact upd_same _ _ _
      have stj : ∀ j, ((f.s.set k 2 0).set k 3 0).st j = upd f.s.st k 3 j := fun j => by
        rw [st_set]
        unfold upd
        split
        · rfl
        · rename_i q
          show upd f.s.st k 2 j = _
          rw [upd_other _ _ q]
      rw [ef] at ho3 ⊢
      refine ⟨e1, et, ⟨⟨_, _, _, _, ho3⟩, fun j hj => ?_, fun j hj => ?_⟩, ?_, stj, rfl, Nat.le_of_eq a4⟩
      · show ((f.s.set k 2 0).set k 3 0).st j = 0 ∨ (((f.s.set k 2 0).set k 3 0).st j = 1 ∧ f.pc j ≠ 0) ∨ ((f.s.set k 2 0).set k 3 0).st j = 3
        rw [stj]
        by_cases e : j = k
        · subst e; rw [upd_same]; exact .inr (.inr rfl)
        · rw [upd_other _ _ e]; exact h.stx j hj
      · show upd grants k (grants k + 1) j + left j + (if ((f.s.set k 2 0).set k 3 0).st j = 1 then 1 else 0) = c
        rw [stj]
        have := h.cnt j hj
        by_cases e : j = k
        · subst e
          rw [upd_same, upd_same, if_neg (by decide)]
          rw [s1, if_pos rfl] at this
          omega
        · rw [upd_other _ _ e, upd_other _ _ e]; exact this
      · have := sumN_upd (w := wgt f left) (w' := wgt { f with s := (f.s.set k 2 0).set k 3 0, ps := ps } left) hk (fun j e => by
          unfold wgt
          rw [stj, upd_other _ _ e])
        have w1 : wgt { f with s := (f.s.set k 2 0).set k 3 0, ps := ps } left k = 4 * left k + 1 := by
          unfold wgt
          rw [stj, upd_same]; rfl
        have w0 : wgt f left k = 4 * left k + 2 := by unfold wgt; rw [s1, q]; rfl
        show sumN _ f.s.n + 1 = sumN _ f.s.n
        omega
  · obtain rfl := ho.held hk (.inr s3)
    rw [(ho.at_free h2 hk s3).1] at he
    exact absurd he (by decide)

/-- neither: one sees its turn, or gives the lock back, or nothing comes of it -/
theorem SvI.other {f : FL} {c : Nat} {left grants : Nat → Nat} {L : Lp} (h : SvI f c left grants) (h1 : L.a1 = 0) (h2 : L.a2 = 1) {k : Nat} (hk : k < f.s.n) (hn : ¬ (f.s.st k = 0 ∧ 0 < left k)) (he : (f.did L k k).ev ≠ 1) :
    SvI (f.step L k k) c left grants ∧ ((todo (f.step L k k) left + 1 = todo f left) ∨ (todo (f.step L k k) left = todo f left ∧ Stuck (f.step L k k) left k ∧ ∀ j, Stuck f left j → Stuck (f.step L k k) left j)) ∧
      (∀ j, j ≠ k → (f.step L k k).s.st j = f.s.st j) ∧ (f.step L k k).s.n = f.s.n ∧ (f.step L k k).ps.D.length ≤ f.ps.D.length + 1 := by
  obtain ⟨g, W, nx, ow, ho⟩ := h.ord
  rcases h.stx k hk with s0 | ⟨s1, hd⟩ | s3
  · rw [(ho.at_idle (L := L) hk (by omega) (by omega)).2]
    exact ⟨h, .inr ⟨rfl, .inl ⟨s0, by omega⟩, fun j hj => hj⟩, fun _ _ => rfl, rfl, Nat.le_succ _⟩
  · have hm := ho.waits hk s1 hd
    obtain ⟨o, o1, hoo⟩ := ho.ownN (List.mem_append_right _ hm)
    rcases ho.prg k with q | q | q
    · exact absurd q hd
    · obtain ⟨_, a2, a3, a4⟩ := ho.sees h2 hk hoo o1
      by_cases ht : turnO g ow f.sz = some o
      · obtain ⟨e1, e2⟩ := ho.at_look h2 hk s1 q hoo o1 ht
        obtain ⟨rfl, W', rfl, hnW⟩ := ho.first hm hoo ht
        rw [e2]
        generalize doS f.ps k 1 (L.a2 + f.own k) 0 0 = ps at *
        refine ⟨⟨⟨_, _, _, _, ho.look a2 a3⟩, fun j hj => ?_, h.cnt⟩, .inl ?_, fun _ _ => rfl, rfl, Nat.le_of_eq a4⟩
        · show f.s.st j = 0 ∨ (f.s.st j = 1 ∧ upd f.pc k 2 j ≠ 0) ∨ f.s.st j = 3
          by_cases e : j = k
          · subst e; rw [upd_same]; exact .inr (.inl ⟨s1, by decide⟩)
          · rw [upd_other _ _ e]; exact h.stx j hj
        · have := sumN_upd (w := wgt f left) (w' := wgt { f with pc := upd f.pc k 2, ps := ps } left) hk (fun j e => by
            show 4 * left j + phs (f.s.st j) (upd f.pc k 2 j) = _
            rw [upd_other _ _ e]
            rfl)
          have w1 : wgt { f with pc := upd f.pc k 2, ps := ps } left k = 4 * left k + 2 := by
            show 4 * left k + phs (f.s.st k) (upd f.pc k 2 k) = _
            rw [upd_same, s1]; rfl
          have w0 : wgt f left k = 4 * left k + 3 := by unfold wgt; rw [s1, q]; rfl
          show sumN _ f.s.n + 1 = sumN _ f.s.n
          omega
      · obtain ⟨e1, e2⟩ := ho.at_wait h2 hk s1 q hoo o1 ht
        rw [e2]
        have hz : f.ps.ws.getD ((f.own k).toNat + 1) 0 = 0 := by
          rw [hoo, Int.toNat_natCast, ho.ws, List.getD_cons_succ, slots_get _ _ o1, if_neg ht]
        generalize doS f.ps k 1 (L.a2 + f.own k) 0 0 = ps at *
        refine ⟨⟨⟨_, _, _, _, ho.psS a2 a3⟩, h.stx, h.cnt⟩, .inr ⟨rfl, .inr ⟨s1, ?_⟩, fun j hj => ?_⟩, fun _ _ => rfl, rfl, Nat.le_of_eq a4⟩
        · show ps.ws.getD ((f.own k).toNat + 1) 0 = 0
          rw [a2]; exact hz
        · unfold Stuck at hj ⊢
          show _ ∨ (_ ∧ ps.ws.getD ((f.own j).toNat + 1) 0 = 0)
          rw [a2]
          exact hj
    · rcases ho.p2 k hk q with e | ⟨rfl, W', rfl⟩
      · have := ho.stg k e; omega
      rw [(ho.at_turn h2 hk s1 q).1] at he
      exact absurd rfl he
  · obtain rfl := ho.held hk (.inr s3)
    obtain ⟨e1, e2, a2, a3, a4⟩ := ho.at_free h2 hk s3
    rw [e2]
    generalize doS f.ps k 2 (L.a2 + (f.own k + 1) % f.sz) 0 1 = ps at *
    refine ⟨⟨⟨_, _, _, _, ho.free a2 a3 0⟩, fun j hj => ?_, fun j hj => ?_⟩, .inl ?_, fun j e => upd_other _ _ e, rfl, Nat.le_of_eq a4⟩
    · show upd f.s.st k 0 j = 0 ∨ (upd f.s.st k 0 j = 1 ∧ upd f.pc k 0 j ≠ 0) ∨ upd f.s.st k 0 j = 3
      by_cases e : j = k
      · subst e; rw [upd_same]; exact .inl rfl
      · rw [upd_other _ _ e, upd_other _ _ e]; exact h.stx j hj
    · show grants j + left j + (if upd f.s.st k 0 j = 1 then 1 else 0) = c
      have := h.cnt j hj
      by_cases e : j = k
      · subst e
        rw [upd_same, if_neg (by decide)]
        rw [s3, if_neg (by decide)] at this
        omega
      · rw [upd_other _ _ e]; exact this
    · generalize hF : ({ f with s := f.s.set k 0 0, pc := upd f.pc k 0, own := upd f.own k 0, ps := ps } : FL) = F
      have fs : F.s = f.s.set k 0 0 := by rw [← hF]
      have fp : F.pc = upd f.pc k 0 := by rw [← hF]
      have := sumN_upd (w := wgt f left) (w' := wgt F left) hk (fun j e => by
        unfold wgt
        rw [fs, fp, st_set, upd_other _ _ e, upd_other _ _ e])
      have w1 : wgt F left k = 4 * left k := by
        unfold wgt
        rw [fs, fp, st_set, upd_same]; rfl
      have w0 : wgt f left k = 4 * left k + 1 := by unfold wgt; rw [s3]; rfl
      unfold todo
      rw [show F.s.n = f.s.n by rw [fs]; rfl]
      omega

/-- if nobody can go on, nobody has anything to do -/
theorem SvI.rest {f : FL} {c : Nat} {left grants : Nat → Nat} (h : SvI f c left grants) (hs : ∀ k, k < f.s.n → Stuck f left k) : ∀ k, k < f.s.n → ¬ Busy f left k := by
  obtain ⟨g, W, nx, ow, ho⟩ := h.ord
  have hq : g.toList ++ W = [] := by
    cases e : g.toList ++ W with
    | nil => rfl
    | cons a r =>
      have hm : a ∈ g.toList ++ W := by rw [e]; exact List.mem_cons_self
      have ha := ho.lt a hm
      have hnum := ho.num 0 a (by rw [e]; rfl)
      rcases hs a ha with ⟨s0, _⟩ | ⟨s1, hne⟩
      · exact absurd hm (ho.idle ha s0)
      · exfalso
        cases g with
        | some b =>
          obtain rfl : b = a := by simpa using (List.cons.inj e).1
          have := ho.stg b rfl
          omega
        | none =>
          rw [ho.ws, hnum, Int.toNat_natCast, List.getD_cons_succ, slots_get _ _ (Nat.mod_lt _ ho.pos), if_pos (by simp [turnO])] at hne
          omega
  intro k hk hb
  have hn : k ∉ g.toList ++ W := by rw [hq]; simp
  rcases hs k hk with ⟨s0, l0⟩ | ⟨s1, _⟩
  · rcases hb with hb | hb
    · omega
    · exact hb s0
  · rcases h.stx k hk with s0 | ⟨_, hd⟩ | s3
    · omega
    · exact hn ((ho.dr k hk).1 hd)
    · omega
end Go.Proofs.Ytiddapikahchkaa
