/- What holds of a hierarchical CLH lock at all times, of its numbers alone: the queue of all, the clusters' queues, whose node is ahead, which nodes are spliced; no heap, no walk. -/
import Derived.Test.YteacdcdjdbobnaaGreatHierPlain
namespace Go.Proofs.YteacdcdjdbobnaaGreat
set_option linter.unusedVariables false
set_option maxRecDepth 100000
set_option maxHeartbeats 400000

/-! ### places in a list -/
theorem split_uniq {Q A A' X X' : List Nat} {i : Nat} (hn : Q.Nodup) (h : Q = A ++ i :: X) (h' : Q = A' ++ i :: X') : A = A' ∧ X = X' := by
  induction A generalizing Q A' with
  | nil =>
    cases A' with
    | nil => rw [h] at h'; exact ⟨rfl, by simpa using h'⟩
    | cons a r =>
      rw [h] at h' hn
      obtain ⟨rfl, e⟩ : i = a ∧ X = r ++ i :: X' := by simpa using h'
      rw [e] at hn
      simp at hn
  | cons a r ih =>
    cases A' with
    | nil =>
      rw [h'] at h hn
      obtain ⟨rfl, e⟩ : i = a ∧ X' = r ++ i :: X := by simpa using h
      rw [e] at hn
      simp at hn
    | cons a' r' =>
      rw [h] at h' hn
      obtain ⟨rfl, e⟩ : a = a' ∧ r ++ i :: X = r' ++ i :: X' := by simpa using h'
      obtain ⟨x, y⟩ := ih (List.nodup_cons.1 hn).2 rfl e
      exact ⟨by rw [x], y⟩
/-- i stands right ahead of j -/
def Adj (Q : List Nat) (i j : Nat) : Prop := ∃ A B, Q = A ++ i :: j :: B
def Last (Q : List Nat) (k : Nat) : Prop := ∃ A, Q = A ++ [k]
section
variable {Q : List Nat} {i j k : Nat}
theorem adj_next (hn : Q.Nodup) {j' : Nat} (h : Adj Q i j) (h' : Adj Q i j') : j = j' := by
  obtain ⟨A, B, h⟩ := h
  obtain ⟨A', B', h'⟩ := h'
  have := (split_uniq hn h h').2
  simp at this
  exact this.1
theorem adj_prev (hn : Q.Nodup) {i' : Nat} (h : Adj Q i j) (h' : Adj Q i' j) : i = i' := by
  obtain ⟨A, B, h⟩ := h
  obtain ⟨A', B', h'⟩ := h'
  have := (split_uniq hn (A := A ++ [i]) (A' := A' ++ [i']) (i := j) (X := B) (X' := B') (by simpa using h) (by simpa using h')).1
  have := congrArg List.getLast? this
  simpa using this
theorem adj_mem (h : Adj Q i j) : i ∈ Q ∧ j ∈ Q := by
  obtain ⟨A, B, rfl⟩ := h
  simp
theorem adj_ne (hn : Q.Nodup) (h : Adj Q i j) : i ≠ j := by
  obtain ⟨A, B, rfl⟩ := h
  intro e
  subst e
  have := (List.nodup_append.1 hn).2.1
  simp at this
theorem adj_last (hn : Q.Nodup) (h : Adj Q i j) : ¬ Last Q i := by
  obtain ⟨A, B, h⟩ := h
  rintro ⟨A', h'⟩
  have := (split_uniq hn h (A' := A') (X' := []) h').2
  cases this
theorem last_mem (h : Last Q k) : k ∈ Q := by obtain ⟨A, rfl⟩ := h; simp
theorem last_uniq {k' : Nat} (h : Last Q k) (h' : Last Q k') : k = k' := by
  obtain ⟨A, rfl⟩ := h
  obtain ⟨A', h'⟩ := h'
  have := congrArg List.getLast? h'
  simpa using this
theorem last_ex (h : Q ≠ []) : ∃ k, Last Q k := ⟨Q.getLast h, Q.dropLast, (List.dropLast_concat_getLast h).symm⟩
theorem adj_head {r : List Nat} : Adj (i :: j :: r) i j := ⟨[], r, rfl⟩
theorem adj_cons (h : Adj Q i j) : Adj (k :: Q) i j := by obtain ⟨A, B, rfl⟩ := h; exact ⟨k :: A, B, rfl⟩
theorem last_cons (h : Last Q i) : Last (k :: Q) i := by obtain ⟨A, rfl⟩ := h; exact ⟨k :: A, rfl⟩
theorem last_one : Last [i] i := ⟨[], rfl⟩
theorem last_of_one (h : Last [i] j) : j = i := by have := last_uniq h last_one; exact this
theorem not_adj_one : ¬ Adj [i] j k := by
  rintro ⟨A, B, h⟩
  cases A with
  | nil => simp at h
  | cons a r => simp at h
theorem last_more (h : Last (Q ++ [k]) j) : j = k := last_uniq h ⟨Q, rfl⟩
theorem last_more' : Last (Q ++ [k]) k := ⟨Q, rfl⟩
theorem adj_more (h : Adj (Q ++ [k]) i j) : Adj Q i j ∨ (Last Q i ∧ j = k) := by
  obtain ⟨A, B, h⟩ := h
  rcases List.eq_nil_or_concat B with rfl | ⟨B', b, rfl⟩
  · have h : Q ++ [k] = (A ++ [i]) ++ [j] := by simpa using h
    obtain ⟨e1, e2⟩ := List.append_inj' h rfl
    exact .inr ⟨⟨A, e1⟩, by simpa using e2.symm⟩
  · have h : Q ++ [k] = (A ++ i :: j :: B') ++ [b] := by simpa using h
    obtain ⟨e1, e2⟩ := List.append_inj' h rfl
    exact .inl ⟨A, B', e1⟩
/-- whoever isn't the head stands behind another one -/
theorem adj_of (h : j ∈ Q) (hh : ∀ r, Q ≠ j :: r) : ∃ i, Adj Q i j := by
  obtain ⟨A, B, rfl⟩ := List.append_of_mem h
  rcases List.eq_nil_or_concat A with rfl | ⟨A', a, rfl⟩
  · exact absurd rfl (hh B)
  · exact ⟨a, A', B, by simp⟩
theorem adj_not_head (hn : Q.Nodup) (h : Adj Q i j) (r : List Nat) : Q ≠ j :: r := by
  obtain ⟨A, B, rfl⟩ := h
  intro e
  have := (split_uniq hn (A := A ++ [i]) (A' := []) (i := j) (X := B) (X' := r) (by simp) e).1
  simp at this
theorem adj_tail {r : List Nat} (h : Adj (k :: r) i j) : (i = k ∧ ∃ r', r = j :: r') ∨ Adj r i j := by
  obtain ⟨A, B, h⟩ := h
  cases A with
  | nil => simp at h; exact .inl ⟨h.1.symm, B, h.2⟩
  | cons a A => simp at h; exact .inr ⟨A, B, h.2⟩
end

/-- m stands at z or ahead of it -/
def Pre (Q : List Nat) (m z : Nat) : Prop := ∃ A B, Q = A ++ m :: B ∧ z ∈ m :: B
section
variable {Q S B r : List Nat} {m z k x y : Nat}
theorem pre_mem (h : Pre Q m z) : m ∈ Q ∧ z ∈ Q := by
  obtain ⟨A, B, rfl, hz⟩ := h
  exact ⟨by simp, List.mem_append_right _ hz⟩
theorem pre_more (h : Pre Q m z) : Pre (Q ++ S) m z := by
  obtain ⟨A, B, rfl, hz⟩ := h
  exact ⟨A, B ++ S, by simp, by rw [← List.cons_append]; exact List.mem_append_left _ hz⟩
theorem pre_new (h : z ∈ k :: S) : Pre (Q ++ k :: S) k z := ⟨Q, S, rfl, h⟩
theorem pre_head (hn : (k :: r).Nodup) (h : Pre (k :: r) m k) : m = k := by
  obtain ⟨A, B, e, hz⟩ := h
  cases A with
  | nil => simp at e; exact e.1.symm
  | cons a A =>
    simp at e
    obtain ⟨rfl, rfl⟩ := e
    exact absurd (List.mem_append_right A hz) (List.nodup_cons.1 hn).1
theorem pre_tail (h : Pre (k :: r) m z) (hm : m ≠ k) : Pre r m z := by
  obtain ⟨A, B, e, hz⟩ := h
  cases A with
  | nil => simp at e; exact absurd e.1.symm hm
  | cons a A => simp at e; exact ⟨A, B, e.2, hz⟩
theorem adj_app (h : Adj (Q ++ k :: S) x y) : Adj Q x y ∨ (Last Q x ∧ y = k) ∨ Adj (k :: S) x y := by
  obtain ⟨A, B, h⟩ := h
  rcases List.append_eq_append_iff.1 h with ⟨a', h1, h2⟩ | ⟨a', h1, h2⟩
  · exact .inr (.inr ⟨a', B, h2⟩)
  · cases a' with
    | nil => simp at h1 h2; subst h1; exact .inr (.inr ⟨[], B, by simp [h2]⟩)
    | cons p a' =>
      simp at h2
      obtain ⟨rfl, h2⟩ := h2
      cases a' with
      | nil => simp at h2; exact .inr (.inl ⟨⟨A, h1⟩, h2.1⟩)
      | cons p a' =>
        simp at h2
        obtain ⟨rfl, h2⟩ := h2
        exact .inl ⟨A, a', h1⟩
theorem adj_pre (h : Adj S x y) : Adj (S ++ B) x y := by
  obtain ⟨A, C, rfl⟩ := h
  exact ⟨A, C ++ B, by simp⟩
theorem adj_suf (h : Adj B x y) : Adj (S ++ B) x y := by
  obtain ⟨A, C, rfl⟩ := h
  exact ⟨S ++ A, C, by simp⟩
theorem last_suf (h : Last B x) : Last (S ++ B) x := by
  obtain ⟨A, rfl⟩ := h
  exact ⟨S ++ A, by simp⟩
end

/-! ### all of it -/
/-- what a context does -/
inductive Ro where
  | idle
  | fresh
  | loc
  | mas
  | bat (o : Nat)
  | spl (p o : Nat)
  | glo
  | hold (p : Nat)
structure Cor (n : Nat) (cl nd A : Nat → Nat) (ro : Nat → Ro) (V : Nat → Int) (T : Int) (K : Nat → Int) (X : Nat → Int) (P : Nat → Nat) (F : Nat) (g : Option Nat) (Q : List Nat) (W : Nat → List Nat) : Prop where
  nq : Q.Nodup
  nw : ∀ c, (W c).Nodup
  mq : ∀ x ∈ Q, x < n ∧ (ro x = .loc ∨ (∃ p o, ro x = .spl p o) ∨ ro x = .glo ∨ ∃ p, ro x = .hold p)
  mw : ∀ c, ∀ x ∈ W c, x < n ∧ cl x = c ∧ x ∉ Q ∧ (ro x = .loc ∨ ro x = .mas ∨ ∃ o, ro x = .bat o)
  ri : ∀ x, x < n → (ro x = .idle ∨ ro x = .fresh) → x ∉ Q ∧ x ∉ W (cl x)
  rl : ∀ x, x < n → ro x = .loc → x ∈ Q ∨ x ∈ W (cl x)
  rm : ∀ x, x < n → ro x = .mas → ∃ r, W (cl x) = x :: r
  rb : ∀ x, x < n → ∀ o, ro x = .bat o → ∃ r z, W (cl x) = x :: r ∧ z ∈ x :: r ∧ nd z = o
  rs : ∀ x, x < n → ∀ p o, ro x = .spl p o → (p = 5 ∨ p = 6) ∧ P (cl x) = o ∧ (∃ z, nd z = o ∧ Pre Q x z ∧ cl z = cl x) ∧ wSp (X o) = 0 ∧ (p = 6 → V x = X o) ∧ (∀ z y, nd z = o → Adj Q z y → ro y ≠ .loc)
  rw : ∀ x, x < n → ∀ p o, ro x = .spl p o → ∀ y r, W (cl x) = y :: r → ro y = .loc
  ru : ∀ x y, x < n → y < n → ∀ p o p' o', ro x = .spl p o → ro y = .spl p' o' → cl x = cl y → x = y
  rg : ∀ x, x < n → ro x = .glo → x ∈ Q
  rh : ∀ x, x < n → ∀ p, ro x = .hold p → g = some x
  gs : ∀ t, g = some t → t < n ∧ ∃ r p, Q = t :: r ∧ ro t = .hold p ∧ (p = 0 ∨ p = 1) ∧ (p = 1 → V t = X (nd t))
  nr : ∀ x, x < n → 1 ≤ nd x ∧ nd x ≤ n + 1
  ni : ∀ x y, x < n → y < n → nd x = nd y → x = y
  fr : 1 ≤ F ∧ F ≤ n + 1
  fn : ∀ x, x < n → nd x ≠ F
  xf : wWt (X F) = 0
  xr : ∀ x, x < n → ro x = .fresh → wCl (X (nd x)) = cl x ∧ wWt (X (nd x)) = 1 ∧ wSp (X (nd x)) = 0
  xq : ∀ x ∈ Q, wCl (X (nd x)) = cl x ∧ wWt (X (nd x)) = 1
  xw : ∀ c, ∀ x ∈ W c, wCl (X (nd x)) = c ∧ wWt (X (nd x)) = 1 ∧ wSp (X (nd x)) = 0
  t0 : Q = [] → T = F
  tl : ∀ k, Last Q k → T = nd k
  k0 : ∀ c, W c = [] → K c = P c
  kl : ∀ c k, Last (W c) k → K c = nd k
  aq : ∀ x y, Adj Q x y → A y = nd x ∧ (ro y = .loc → cl y = cl x ∧ wSp (X (nd x)) = 0)
  hq : ∀ y r, Q = y :: r → A y = F ∧ (ro y = .loc → wCl (X F) = cl y ∧ wSp (X F) = 0)
  aw : ∀ c x y, Adj (W c) x y → A y = nd x ∧ ro y = .loc
  hw : ∀ c y r, W c = y :: r → ro y = .loc → A y = P c ∧ P c ≠ 0
  st : ∀ c, P c ≠ 0 → P c ≤ n + 1 ∧ ((wSp (X (P c)) ≠ 0 ∨ wCl (X (P c)) ≠ c) ∨ ∃ m, m < n ∧ cl m = c ∧ ∃ p, ro m = .spl p (P c))
  f1 : ∀ x, x < n → x ∉ Q → nd x ≠ P (cl x)
  f2 : ∀ x ∈ Q, A x ≠ P (cl x)
namespace Cor
variable {n : Nat} {cl nd nd' A A' : Nat → Nat} {ro ro' : Nat → Ro} {V V' : Nat → Int} {T T' : Int} {K K' X X' : Nat → Int} {P P' : Nat → Nat} {F F' : Nat} {g : Option Nat} {Q : List Nat} {W W' : Nat → List Nat} {k o : Nat}

theorem ql (h : Cor n cl nd A ro V T K X P F g Q W) : ∀ x ∈ Q, x < n := fun x hx => (h.mq x hx).1
theorem wl (h : Cor n cl nd A ro V T K X P F g Q W) : ∀ c, ∀ x ∈ W c, x < n ∧ cl x = c := fun c x hx => ⟨(h.mw c x hx).1, (h.mw c x hx).2.1⟩
theorem off (h : Cor n cl nd A ro V T K X P F g Q W) (hk : k < n) (hr : ro k = .idle ∨ ro k = .fresh) : (∀ x ∈ Q, x ≠ k) ∧ (∀ c, ∀ x ∈ W c, x ≠ k) := by
  have hi := h.ri k hk hr
  refine ⟨fun x hx q => hi.1 (q ▸ hx), fun c x hx q => ?_⟩
  have := (h.wl c x hx).2
  subst q this
  exact hi.2 hx
theorem nne (h : Cor n cl nd A ro V T K X P F g Q W) (hk : k < n) {x : Nat} (hx : x < n) (hn : x ≠ k) : nd x ≠ nd k := fun q => hn (h.ni x k hx hk q)
/-- (1) its node's word is set -/
theorem s_store (h : Cor n cl nd A ro V T K X P F g Q W) (hk : k < n) (hr : ro k = .idle) (e0 : ro' k = .fresh) (e : ∀ u, u ≠ k → ro' u = ro u) (x0 : wCl (X' (nd k)) = cl k ∧ wWt (X' (nd k)) = 1 ∧ wSp (X' (nd k)) = 0) (x : ∀ j, j ≠ nd k → X' j = X j) : Cor n cl nd A ro' V T K X' P F g Q W := by
  obtain ⟨kQ, kW⟩ := h.off hk (.inl hr)
  have iQ : ∀ y ∈ Q, X' (nd y) = X (nd y) := fun y hy => x _ (h.nne hk (h.ql y hy) (kQ y hy))
  have iW : ∀ c, ∀ y ∈ W c, X' (nd y) = X (nd y) := fun c y hy => x _ (h.nne hk (h.wl c y hy).1 (kW c y hy))
  have iF : X' F = X F := x _ fun q => h.fn k hk q.symm
  refine ⟨h.nq, h.nw, ?mq, ?mw, ?ri, ?rl, ?rm, ?rb, ?rs, ?rw, ?ru, ?rg, ?rh, ?gs, h.nr, h.ni, h.fr, h.fn, ?xf, ?xr, ?xq, ?xw, h.t0, h.tl, h.k0, h.kl, ?aq, ?hq, ?aw, ?hw, ?st, h.f1, h.f2⟩
  case mq => intro y hy; rw [e y (kQ y hy)]; exact h.mq y hy
  case mw => intro c y hy; rw [e y (kW c y hy)]; exact h.mw c y hy
  case ri => intro y hy hr'; by_cases q : y = k
             · exact q ▸ h.ri k hk (.inl hr)
             · rw [e y q] at hr'; exact h.ri y hy hr'
  case rl => have := h.rl; grind
  case rm => have := h.rm; grind
  case rb => have := h.rb; grind
  case rs =>
    intro m hm p o hr'
    have hmk : m ≠ k := by rintro rfl; rw [e0] at hr'; cases hr'
    obtain ⟨a1, a2, ⟨z, z1, z2, z3⟩, a4, a5, a6⟩ := h.rs m hm p o (by rw [← e m hmk]; exact hr')
    have ho : X' o = X o := z1 ▸ iQ z (pre_mem z2).2
    refine ⟨a1, a2, ⟨z, z1, z2, z3⟩, by rw [ho]; exact a4, by rw [ho]; exact a5, fun z y hz hy => ?_⟩
    rw [e y (kQ y (adj_mem hy).2)]
    exact a6 z y hz hy
  case rw =>
    intro m hm p o hr' y r hy
    rw [e y (kW _ y (by rw [hy]; exact List.mem_cons_self))]
    exact h.rw m hm p o (by rw [← e m (by rintro rfl; rw [e0] at hr'; cases hr')]; exact hr') y r hy
  case ru => have := h.ru; grind
  case rg => have := h.rg; grind
  case rh => have := h.rh; grind
  case gs => have := h.gs; grind
  case xf => rw [iF]; exact h.xf
  case xr => have := h.xr; have := h.ni; grind
  case xq => have := h.xq; grind
  case xw => have := h.xw; grind
  case aq => intro a b hab; rw [e b (kQ b (adj_mem hab).2), iQ a (adj_mem hab).1]; exact h.aq a b hab
  case hq => intro y r hy; rw [e y (kQ y (by rw [hy]; exact List.mem_cons_self)), iF]; exact h.hq y r hy
  case aw => intro c a b hab; rw [e b (kW c b (adj_mem hab).2)]; exact h.aw c a b hab
  case hw => intro c y r hy; rw [e y (kW c y (by rw [hy]; exact List.mem_cons_self))]; exact h.hw c y r hy
  case st =>
    intro c hc
    obtain ⟨a1, a2⟩ := h.st c hc
    refine ⟨a1, ?_⟩
    by_cases q : P c = nd k
    · have := h.f1 k hk (fun q => kQ k q rfl)
      grind
    · rw [x _ q]
      rcases a2 with a2 | ⟨m, m1, m2, p, m3⟩
      · exact .inl a2
      · exact .inr ⟨m, m1, m2, p, by rw [e m (by rintro rfl; rw [hr] at m3; cases m3)]; exact m3⟩
theorem kl_mem (h : Cor n cl nd A ro V T K X P F g Q W) {c : Nat} (hc : W c ≠ []) : ∃ z, Last (W c) z ∧ K c = nd z ∧ z < n ∧ cl z = c := by
  obtain ⟨z, hz⟩ := last_ex hc
  exact ⟨z, hz, h.kl c z hz, (h.wl c z (last_mem hz)).1, (h.wl c z (last_mem hz)).2⟩
/-- nobody of k's cluster splices -/
def Quiet (n : Nat) (cl : Nat → Nat) (ro : Nat → Ro) (c : Nat) : Prop := ∀ m, m < n → cl m = c → ∀ p o, ro m ≠ .spl p o
/-- who waits for the one ahead in its cluster: what it sees there -/
theorem looks (h : Cor n cl nd A ro V T K X P F g Q W) (hk : k < n) (hr : ro k = .loc) :
    (wCl (X (A k)) = cl k ∧ wSp (X (A k)) = 0 ∧ wWt (X (A k)) = 1) ∨ (wCl (X (A k)) = cl k ∧ wSp (X (A k)) = 0 ∧ wWt (X (A k)) = 0 ∧ g = none ∧ ∃ r, Q = k :: r) ∨ (¬ (wCl (X (A k)) = cl k ∧ wSp (X (A k)) = 0) ∧ Quiet n cl ro (cl k) ∧ ∃ r, W (cl k) = k :: r) := by
  rcases h.rl k hk hr with hm | hm
  · by_cases hh : ∃ r, Q = k :: r
    · obtain ⟨r, hh⟩ := hh
      obtain ⟨a1, a2⟩ := h.hq k r hh
      obtain ⟨b1, b2⟩ := a2 hr
      refine .inr (.inl ⟨by rw [a1]; exact b1, by rw [a1]; exact b2, by rw [a1]; exact h.xf, ?_, r, hh⟩)
      cases hg : g with
      | none => rfl
      | some t =>
        obtain ⟨_, r', p, e1, e2, _⟩ := h.gs t hg
        rw [hh] at e1
        obtain ⟨rfl, _⟩ := List.cons.inj e1
        rw [hr] at e2; cases e2
    · obtain ⟨x, hx⟩ := adj_of hm (fun r hq => hh ⟨r, hq⟩)
      obtain ⟨a1, a2⟩ := h.aq x k hx
      obtain ⟨b1, b2⟩ := a2 hr
      obtain ⟨c1, c2⟩ := h.xq x (adj_mem hx).1
      exact .inl ⟨by rw [a1, c1, b1], by rw [a1, b2], by rw [a1, c2]⟩
  · by_cases hh : ∃ r, W (cl k) = k :: r
    · obtain ⟨r, hh⟩ := hh
      obtain ⟨a1, a2⟩ := h.hw _ k r hh hr
      by_cases hs : ∃ m, m < n ∧ cl m = cl k ∧ ∃ p o, ro m = .spl p o
      · obtain ⟨m, m1, m2, p, o, m3⟩ := hs
        obtain ⟨_, b2, ⟨z, z1, z2, z3⟩, b4, _⟩ := h.rs m m1 p o m3
        obtain ⟨c1, c2⟩ := h.xq z (pre_mem z2).2
        rw [m2] at b2
        rw [a1, b2, ← z1]
        exact .inl ⟨by rw [c1, z3, m2], by rw [z1]; exact b4, c2⟩
      · have hqt : Quiet n cl ro (cl k) := fun m m1 m2 p o m3 => hs ⟨m, m1, m2, p, o, m3⟩
        refine .inr (.inr ⟨?_, hqt, r, hh⟩)
        rw [a1]
        rcases (h.st _ a2).2 with b | ⟨m, m1, m2, p, m3⟩
        · rintro ⟨q1, q2⟩
          rcases b with b | b
          · exact b q2
          · exact b q1
        · exact absurd m3 (hqt m m1 m2 p _)
    · obtain ⟨x, hx⟩ := adj_of hm (fun r hq => hh ⟨r, hq⟩)
      obtain ⟨a1, _⟩ := h.aw _ x k hx
      obtain ⟨c1, c2, c3⟩ := h.xw _ x (adj_mem hx).1
      exact .inl ⟨by rw [a1, c1], by rw [a1, c3], by rw [a1, c2]⟩
theorem looksG (h : Cor n cl nd A ro V T K X P F g Q W) (hk : k < n) (hr : ro k = .glo) : wWt (X (A k)) = 1 ∨ (wWt (X (A k)) = 0 ∧ g = none ∧ ∃ r, Q = k :: r) := by
  have hm := h.rg k hk hr
  by_cases hh : ∃ r, Q = k :: r
  · obtain ⟨r, hh⟩ := hh
    refine .inr ⟨by rw [(h.hq k r hh).1]; exact h.xf, ?_, r, hh⟩
    cases hg : g with
    | none => rfl
    | some t =>
      obtain ⟨_, r', p, e1, e2, _⟩ := h.gs t hg
      rw [hh] at e1
      obtain ⟨rfl, _⟩ := List.cons.inj e1
      rw [hr] at e2; cases e2
  · obtain ⟨x, hx⟩ := adj_of hm (fun r hq => hh ⟨r, hq⟩)
    exact .inl (by rw [(h.aq x k hx).1]; exact (h.xq x (adj_mem hx).1).2)
/-- (3) it is to bring its batch -/
theorem s_go (h : Cor n cl nd A ro V T K X P F g Q W) (hk : k < n) (hr : ro k = .loc) (hqt : Quiet n cl ro (cl k)) {r : List Nat} (hw : W (cl k) = k :: r) (e0 : ro' k = .mas) (e : ∀ u, u ≠ k → ro' u = ro u) : Cor n cl nd A ro' V T K X P F g Q W := by
  have kW : k ∈ W (cl k) := by rw [hw]; exact List.mem_cons_self
  have kQ : ∀ x ∈ Q, x ≠ k := fun x hx q => (h.mw _ k kW).2.2.1 (q ▸ hx)
  refine ⟨h.nq, h.nw, ?mq, ?mw, ?ri, ?rl, ?rm, ?rb, ?rs, ?rw, ?ru, ?rg, ?rh, ?gs, h.nr, h.ni, h.fr, h.fn, h.xf, ?xr, h.xq, h.xw, h.t0, h.tl, h.k0, h.kl, ?aq, ?hq, ?aw, ?hw, ?st, h.f1, h.f2⟩
  case mq => intro y hy; rw [e y (kQ y hy)]; exact h.mq y hy
  case mw => intro c y hy; obtain ⟨a1, a2, a3, a4⟩ := h.mw c y hy; refine ⟨a1, a2, a3, ?_⟩; by_cases q : y = k <;> grind
  case ri => intro y hy hr'; by_cases q : y = k
             · subst q; rw [e0] at hr'; rcases hr' with q | q <;> cases q
             · rw [e y q] at hr'; exact h.ri y hy hr'
  case rl => have := h.rl; grind
  case rm => have := h.rm; grind
  case rb => have := h.rb; grind
  case rs =>
    intro m hm p o hr'
    have hmk : m ≠ k := by rintro rfl; rw [e0] at hr'; cases hr'
    obtain ⟨a1, a2, a3, a4, a5, a6⟩ := h.rs m hm p o (by rw [← e m hmk]; exact hr')
    refine ⟨a1, a2, a3, a4, a5, fun z y hz hy => ?_⟩
    rw [e y (kQ y (adj_mem hy).2)]
    exact a6 z y hz hy
  case rw =>
    intro m hm p o hr' y r hy
    have hr' : ro m = .spl p o := by rw [← e m (by rintro rfl; rw [e0] at hr'; cases hr')]; exact hr'
    have hc : cl m ≠ cl k := fun q => hqt m hm q p o hr'
    rw [e y (fun q => hc (by subst q; exact ((h.wl _ y (by rw [hy]; exact List.mem_cons_self)).2).symm))]
    exact h.rw m hm p o hr' y r hy
  case ru => have := h.ru; grind
  case rg => have := h.rg; grind
  case rh => have := h.rh; grind
  case gs => have := h.gs; grind
  case xr => have := h.xr; grind
  case aq => intro a b hab; rw [e b (kQ b (adj_mem hab).2)]; exact h.aq a b hab
  case hq => intro y r hy; rw [e y (kQ y (by rw [hy]; exact List.mem_cons_self))]; exact h.hq y r hy
  case aw =>
    intro c a b hab
    rw [e b (fun q => ?_)]
    · exact h.aw c a b hab
    · subst q
      obtain rfl := (h.wl c _ (adj_mem hab).2).2
      exact adj_not_head (h.nw _) hab r hw
  case hw => intro c y r hy hl; have q : y ≠ k := by { rintro rfl; rw [e0] at hl; cases hl }
             rw [e y q] at hl; exact h.hw c y r hy hl
  case st =>
    intro c hc
    obtain ⟨a1, a2⟩ := h.st c hc
    refine ⟨a1, ?_⟩
    rcases a2 with a2 | ⟨m, m1, m2, p, m3⟩
    · exact .inl a2
    · exact .inr ⟨m, m1, m2, p, by rw [e m (by rintro rfl; rw [hr] at m3; cases m3)]; exact m3⟩
/-- it has the lock -/
theorem s_take (h : Cor n cl nd A ro V T K X P F none (k :: Q) W) (hr : ro k = .loc ∨ ro k = .glo) (e0 : ro' k = .hold 0) (e : ∀ u, u ≠ k → ro' u = ro u) : Cor n cl nd A ro' V T K X P F (some k) (k :: Q) W := by
  have hk : k < n := h.ql k List.mem_cons_self
  have kW : ∀ c, ∀ x ∈ W c, x ≠ k := fun c x hx q => (h.mw c x hx).2.2.1 (by rw [q]; exact List.mem_cons_self)
  have hns : ∀ p o, ro k ≠ .spl p o := fun p o q => by rcases hr with hr | hr <;> (rw [hr] at q; cases q)
  refine ⟨h.nq, h.nw, ?mq, ?mw, ?ri, ?rl, ?rm, ?rb, ?rs, ?rw, ?ru, ?rg, ?rh, ?gs, h.nr, h.ni, h.fr, h.fn, h.xf, ?xr, h.xq, h.xw, h.t0, h.tl, h.k0, h.kl, ?aq, ?hq, ?aw, ?hw, ?st, h.f1, h.f2⟩
  case mq => intro y hy; refine ⟨(h.mq y hy).1, ?_⟩; by_cases q : y = k
             · subst q; rw [e0]; exact .inr (.inr (.inr ⟨_, rfl⟩))
             · rw [e y q]; exact (h.mq y hy).2
  case mw => intro c y hy; rw [e y (kW c y hy)]; exact h.mw c y hy
  case ri => intro y hy hr'; by_cases q : y = k
             · subst q; rw [e0] at hr'; rcases hr' with q | q <;> cases q
             · rw [e y q] at hr'; exact h.ri y hy hr'
  case rl => have := h.rl; grind
  case rm => have := h.rm; grind
  case rb => have := h.rb; grind
  case rs =>
    intro m hm p o hr'
    have hmk : m ≠ k := by rintro rfl; rw [e0] at hr'; cases hr'
    obtain ⟨a1, a2, a3, a4, a5, a6⟩ := h.rs m hm p o (by rw [← e m hmk]; exact hr')
    refine ⟨a1, a2, a3, a4, a5, fun z y hz hy => ?_⟩
    by_cases q : y = k
    · subst q; rw [e0]; intro q; cases q
    · rw [e y q]; exact a6 z y hz hy
  case rw =>
    intro m hm p o hr' y r hy
    rw [e y (kW _ y (by rw [hy]; exact List.mem_cons_self))]
    exact h.rw m hm p o (by rw [← e m (by rintro rfl; rw [e0] at hr'; cases hr')]; exact hr') y r hy
  case ru => have := h.ru; grind
  case rg => have := h.rg; grind
  case rh => have := h.rh; grind
  case gs => intro t ht; cases ht; exact ⟨hk, Q, 0, rfl, e0, .inl rfl, fun q => by cases q⟩
  case xr => have := h.xr; grind
  case aq =>
    intro a b hab
    refine ⟨(h.aq a b hab).1, fun hl => ?_⟩
    have q : b ≠ k := by rintro rfl; rw [e0] at hl; cases hl
    rw [e b q] at hl
    exact (h.aq a b hab).2 hl
  case hq =>
    intro y r hy
    refine ⟨(h.hq y r hy).1, fun hl => ?_⟩
    obtain ⟨rfl, _⟩ := List.cons.inj hy
    rw [e0] at hl; cases hl
  case aw => intro c a b hab; rw [e b (kW c b (adj_mem hab).2)]; exact h.aw c a b hab
  case hw => intro c y r hy; rw [e y (kW c y (by rw [hy]; exact List.mem_cons_self))]; exact h.hw c y r hy
  case st =>
    intro c hc
    obtain ⟨a1, a2⟩ := h.st c hc
    refine ⟨a1, ?_⟩
    rcases a2 with a2 | ⟨m, m1, m2, p, m3⟩
    · exact .inl a2
    · exact .inr ⟨m, m1, m2, p, by rw [e m (by rintro rfl; exact hns _ _ m3)]; exact m3⟩
/-- (2) nobody of its cluster was there: its batch is to be brought by itself -/
theorem s_enq0 (h : Cor n cl nd A ro V T K X P F g Q W) (hk : k < n) (hr : ro k = .fresh) (h0 : K (cl k) = 0) (e0 : ro' k = .mas) (e : ∀ u, u ≠ k → ro' u = ro u) (k0 : K' (cl k) = nd k) (kk : ∀ c, c ≠ cl k → K' c = K c) (a : ∀ u, u ≠ k → A' u = A u) (w0 : W' (cl k) = W (cl k) ++ [k]) (w : ∀ c, c ≠ cl k → W' c = W c) : Cor n cl nd A' ro' V T K' X P F g Q W' := by
  have hW : W (cl k) = [] := by
    by_cases q : W (cl k) = []
    · exact q
    · obtain ⟨z, _, z2, z3, _⟩ := h.kl_mem q
      have := (h.nr z z3).1; omega
  have hP : P (cl k) = 0 := by have := h.k0 _ hW; omega
  rw [hW] at w0
  simp only [List.nil_append] at w0
  obtain ⟨kQ, kW⟩ := h.off hk (.inr hr)
  have hqt : Quiet n cl ro (cl k) := fun m m1 m2 p o m3 => by
    obtain ⟨_, b2, ⟨z, z1, z2, z3⟩, _⟩ := h.rs m m1 p o m3
    have := (h.nr z (h.ql z (pre_mem z2).2)).1
    rw [m2] at b2; omega
  have wk : ∀ c, ∀ x ∈ W' c, x = k ∧ c = cl k ∨ x ≠ k ∧ x ∈ W c ∧ c ≠ cl k := fun c x hx => by
    by_cases q : c = cl k
    · subst q; rw [w0] at hx; exact .inl ⟨by simpa using hx, rfl⟩
    · rw [w c q] at hx; exact .inr ⟨kW c x hx, hx, q⟩
  refine ⟨h.nq, ?nw, ?mq, ?mw, ?ri, ?rl, ?rm, ?rb, ?rs, ?rw, ?ru, ?rg, ?rh, ?gs, h.nr, h.ni, h.fr, h.fn, h.xf, ?xr, h.xq, ?xw, h.t0, h.tl, ?k0, ?kl, ?aq, ?hq, ?aw, ?hw, ?st, h.f1, ?f2⟩
  case nw => intro c; by_cases q : c = cl k
             · subst q; rw [w0]; simp
             · rw [w c q]; exact h.nw c
  case mq => intro y hy; rw [e y (kQ y hy)]; exact h.mq y hy
  case mw =>
    intro c y hy
    rcases wk c y hy with ⟨rfl, rfl⟩ | ⟨q1, q2, q3⟩
    · exact ⟨hk, rfl, fun q => kQ _ q rfl, .inr (.inl e0)⟩
    · rw [e y q1]; exact h.mw c y q2
  case ri =>
    intro y hy hr'
    by_cases q : y = k
    · subst q; rw [e0] at hr'; rcases hr' with q | q <;> cases q
    · rw [e y q] at hr'
      refine ⟨(h.ri y hy hr').1, fun hm => ?_⟩
      rcases wk _ y hm with ⟨q1, _⟩ | ⟨_, q2, _⟩
      · exact q q1
      · exact (h.ri y hy hr').2 q2
  case rl =>
    intro y hy hl
    have q : y ≠ k := by rintro rfl; rw [e0] at hl; cases hl
    rw [e y q] at hl
    rcases h.rl y hy hl with h1 | h1
    · exact .inl h1
    · exact .inr (by rw [w (cl y) (fun q2 => by rw [q2, hW] at h1; cases h1)]; exact h1)
  case rm =>
    intro y hy hl
    by_cases q : y = k
    · subst q; exact ⟨[], w0⟩
    · rw [e y q] at hl
      obtain ⟨r, h1⟩ := h.rm y hy hl
      exact ⟨r, by rw [w (cl y) (fun q2 => by rw [q2, hW] at h1; cases h1)]; exact h1⟩
  case rb =>
    intro y hy o hl
    have q : y ≠ k := by rintro rfl; rw [e0] at hl; cases hl
    rw [e y q] at hl
    obtain ⟨r, z, h1, h2, h3⟩ := h.rb y hy o hl
    exact ⟨r, z, by rw [w (cl y) (fun q2 => by rw [q2, hW] at h1; cases h1)]; exact h1, h2, h3⟩
  case rs =>
    intro m hm p o hr'
    have hmk : m ≠ k := by rintro rfl; rw [e0] at hr'; cases hr'
    obtain ⟨a1, a2, a3, a4, a5, a6⟩ := h.rs m hm p o (by rw [← e m hmk]; exact hr')
    refine ⟨a1, a2, a3, a4, a5, fun z y hz hy => ?_⟩
    rw [e y (kQ y (adj_mem hy).2)]
    exact a6 z y hz hy
  case rw =>
    intro m hm p o hr' y r hy
    have hr' : ro m = .spl p o := by rw [← e m (by rintro rfl; rw [e0] at hr'; cases hr')]; exact hr'
    have hc : cl m ≠ cl k := fun q => hqt m hm q p o hr'
    rw [w _ hc] at hy
    rw [e y (kW _ y (by rw [hy]; exact List.mem_cons_self))]
    exact h.rw m hm p o hr' y r hy
  case ru => have := h.ru; grind
  case rg => have := h.rg; grind
  case rh => have := h.rh; grind
  case gs => have := h.gs; grind
  case xr => have := h.xr; grind
  case xw =>
    intro c y hy
    rcases wk c y hy with ⟨rfl, rfl⟩ | ⟨q1, q2, q3⟩
    · exact h.xr _ hk hr
    · exact h.xw c y q2
  case k0 =>
    intro c hc
    have q : c ≠ cl k := by rintro rfl; rw [w0] at hc; cases hc
    rw [w c q] at hc; rw [kk c q]; exact h.k0 c hc
  case kl =>
    intro c z hz
    by_cases q : c = cl k
    · subst q; rw [w0] at hz; rw [last_of_one hz]; exact k0
    · rw [w c q] at hz; rw [kk c q]; exact h.kl c z hz
  case aq => intro x b hab; rw [e b (kQ b (adj_mem hab).2), a b (kQ b (adj_mem hab).2)]; exact h.aq x b hab
  case hq => intro y r hy; have q := kQ y (by rw [hy]; exact List.mem_cons_self); rw [e y q, a y q]; exact h.hq y r hy
  case aw =>
    intro c x b hab
    have q : c ≠ cl k := by rintro rfl; rw [w0] at hab; exact not_adj_one hab
    rw [w c q] at hab
    have q2 := kW c b (adj_mem hab).2
    rw [e b q2, a b q2]; exact h.aw c x b hab
  case hw =>
    intro c y r hy hl
    have q : c ≠ cl k := by
      rintro rfl
      rw [w0] at hy
      obtain ⟨rfl, _⟩ := List.cons.inj hy
      rw [e0] at hl; cases hl
    rw [w c q] at hy
    have q2 := kW c y (by rw [hy]; exact List.mem_cons_self)
    rw [e y q2] at hl; rw [a y q2]; exact h.hw c y r hy hl
  case st =>
    intro c hc
    obtain ⟨a1, a2⟩ := h.st c hc
    refine ⟨a1, ?_⟩
    rcases a2 with a2 | ⟨m, m1, m2, p, m3⟩
    · exact .inl a2
    · exact .inr ⟨m, m1, m2, p, by rw [e m (by rintro rfl; rw [hr] at m3; cases m3)]; exact m3⟩
  case f2 => intro y hy; rw [a y (kQ y hy)]; exact h.f2 y hy
/-- (2) somebody of its cluster was -/
theorem s_enq1 (h : Cor n cl nd A ro V T K X P F g Q W) (hk : k < n) (hr : ro k = .fresh) (h0 : K (cl k) ≠ 0) (e0 : ro' k = .loc) (e : ∀ u, u ≠ k → ro' u = ro u) (k0 : K' (cl k) = nd k) (kk : ∀ c, c ≠ cl k → K' c = K c) (a0 : (A' k : Int) = K (cl k)) (a : ∀ u, u ≠ k → A' u = A u) (w0 : W' (cl k) = W (cl k) ++ [k]) (w : ∀ c, c ≠ cl k → W' c = W c) : Cor n cl nd A' ro' V T K' X P F g Q W' := by
  obtain ⟨kQ, kW⟩ := h.off hk (.inr hr)
  have wk : ∀ c, ∀ x ∈ W' c, x = k ∧ c = cl k ∨ x ≠ k ∧ x ∈ W c := fun c x hx => by
    by_cases q : c = cl k
    · subst q
      rw [w0, List.mem_append, List.mem_singleton] at hx
      rcases hx with hx | hx
      · exact .inr ⟨kW _ x hx, hx⟩
      · exact .inl ⟨hx, rfl⟩
    · rw [w c q] at hx; exact .inr ⟨kW c x hx, hx⟩
  have up : ∀ c, ∀ x ∈ W c, x ∈ W' c := fun c x hx => by
    by_cases q : c = cl k
    · subst q; rw [w0]; exact List.mem_append_left _ hx
    · rw [w c q]; exact hx
  have upH : ∀ c y r, W c = y :: r → ∃ r', W' c = y :: r' ∧ ∀ z ∈ y :: r, z ∈ y :: r' := fun c y r hy => by
    by_cases q : c = cl k
    · subst q; rw [w0, hy]; exact ⟨r ++ [k], rfl, fun z hz => by rw [← List.cons_append]; exact List.mem_append_left _ hz⟩
    · rw [w c q]; exact ⟨r, hy, fun z hz => hz⟩
  have hdW : ∀ c y r, W' c = y :: r → (y = k ∧ c = cl k ∧ W c = []) ∨ ∃ r', W c = y :: r' := fun c y r hy => by
    by_cases q : c = cl k
    · subst q
      rw [w0] at hy
      cases hw : W (cl k) with
      | nil => rw [hw] at hy; simp at hy; exact .inl ⟨hy.1.symm, rfl, rfl⟩
      | cons b s => rw [hw] at hy; simp at hy; exact .inr ⟨s, by rw [hy.1]⟩
    · rw [w c q] at hy; exact .inr ⟨r, hy⟩
  refine ⟨h.nq, ?nw, ?mq, ?mw, ?ri, ?rl, ?rm, ?rb, ?rs, ?rw, ?ru, ?rg, ?rh, ?gs, h.nr, h.ni, h.fr, h.fn, h.xf, ?xr, h.xq, ?xw, h.t0, h.tl, ?k0, ?kl, ?aq, ?hq, ?aw, ?hw, ?st, h.f1, ?f2⟩
  case nw =>
    intro c
    by_cases q : c = cl k
    · subst q
      rw [w0, List.nodup_append]
      exact ⟨h.nw _, by simp, fun x hx b hb q => by rw [List.mem_singleton] at hb; exact kW _ x hx (q.trans hb)⟩
    · rw [w c q]; exact h.nw c
  case mq => intro y hy; rw [e y (kQ y hy)]; exact h.mq y hy
  case mw =>
    intro c y hy
    rcases wk c y hy with ⟨rfl, rfl⟩ | ⟨q1, q2⟩
    · exact ⟨hk, rfl, fun q => kQ _ q rfl, .inl e0⟩
    · rw [e y q1]; exact h.mw c y q2
  case ri =>
    intro y hy hr'
    by_cases q : y = k
    · subst q; rw [e0] at hr'; rcases hr' with q | q <;> cases q
    · rw [e y q] at hr'
      refine ⟨(h.ri y hy hr').1, fun hm => ?_⟩
      rcases wk _ y hm with ⟨q1, _⟩ | ⟨_, q2⟩
      · exact q q1
      · exact (h.ri y hy hr').2 q2
  case rl =>
    intro y hy hl
    by_cases q : y = k
    · subst q; exact .inr (by rw [w0]; simp)
    · rw [e y q] at hl
      exact (h.rl y hy hl).imp id (up _ y)
  case rm =>
    intro y hy hl
    have q : y ≠ k := by rintro rfl; rw [e0] at hl; cases hl
    rw [e y q] at hl
    obtain ⟨r, h1⟩ := h.rm y hy hl
    obtain ⟨r', h2, _⟩ := upH _ y r h1
    exact ⟨r', h2⟩
  case rb =>
    intro y hy o hl
    have q : y ≠ k := by rintro rfl; rw [e0] at hl; cases hl
    rw [e y q] at hl
    obtain ⟨r, z, h1, h2, h3⟩ := h.rb y hy o hl
    obtain ⟨r', h4, h5⟩ := upH _ y r h1
    exact ⟨r', z, h4, h5 z h2, h3⟩
  case rs =>
    intro m hm p o hr'
    have hmk : m ≠ k := by rintro rfl; rw [e0] at hr'; cases hr'
    obtain ⟨a1, a2, a3, a4, a5, a6⟩ := h.rs m hm p o (by rw [← e m hmk]; exact hr')
    refine ⟨a1, a2, a3, a4, a5, fun z y hz hy => ?_⟩
    rw [e y (kQ y (adj_mem hy).2)]
    exact a6 z y hz hy
  case rw =>
    intro m hm p o hr' y r hy
    have hr' : ro m = .spl p o := by rw [← e m (by rintro rfl; rw [e0] at hr'; cases hr')]; exact hr'
    rcases hdW _ y r hy with ⟨rfl, _⟩ | ⟨r', hy⟩
    · exact e0
    · rw [e y (kW _ y (by rw [hy]; exact List.mem_cons_self))]
      exact h.rw m hm p o hr' y r' hy
  case ru => have := h.ru; grind
  case rg => have := h.rg; grind
  case rh => have := h.rh; grind
  case gs => have := h.gs; grind
  case xr => have := h.xr; grind
  case xw =>
    intro c y hy
    rcases wk c y hy with ⟨rfl, rfl⟩ | ⟨q1, q2⟩
    · exact h.xr _ hk hr
    · exact h.xw c y q2
  case k0 =>
    intro c hc
    have q : c ≠ cl k := by rintro rfl; rw [w0] at hc; simp at hc
    rw [w c q] at hc; rw [kk c q]; exact h.k0 c hc
  case kl =>
    intro c z hz
    by_cases q : c = cl k
    · subst q; rw [w0] at hz; rw [last_more hz]; exact k0
    · rw [w c q] at hz; rw [kk c q]; exact h.kl c z hz
  case aq => intro x b hab; rw [e b (kQ b (adj_mem hab).2), a b (kQ b (adj_mem hab).2)]; exact h.aq x b hab
  case hq => intro y r hy; have q := kQ y (by rw [hy]; exact List.mem_cons_self); rw [e y q, a y q]; exact h.hq y r hy
  case aw =>
    intro c x b hab
    by_cases q : c = cl k
    · subst q
      rw [w0] at hab
      rcases adj_more hab with hab | ⟨hl, rfl⟩
      · have q2 := kW _ b (adj_mem hab).2
        rw [e b q2, a b q2]; exact h.aw _ x b hab
      · have := h.kl _ x hl
        exact ⟨by omega, e0⟩
    · rw [w c q] at hab
      have q2 := kW c b (adj_mem hab).2
      rw [e b q2, a b q2]; exact h.aw c x b hab
  case hw =>
    intro c y r hy hl
    rcases hdW c y r hy with ⟨rfl, rfl, hn⟩ | ⟨r', hy⟩
    · have := h.k0 _ hn
      exact ⟨by omega, by omega⟩
    · have q2 := kW c y (by rw [hy]; exact List.mem_cons_self)
      rw [e y q2] at hl; rw [a y q2]; exact h.hw c y r' hy hl
  case st =>
    intro c hc
    obtain ⟨a1, a2⟩ := h.st c hc
    refine ⟨a1, ?_⟩
    rcases a2 with a2 | ⟨m, m1, m2, p, m3⟩
    · exact .inl a2
    · exact .inr ⟨m, m1, m2, p, by rw [e m (by rintro rfl; rw [hr] at m3; cases m3)]; exact m3⟩
  case f2 => intro y hy; rw [a y (kQ y hy)]; exact h.f2 y hy
theorem quiet (h : Cor n cl nd A ro V T K X P F g Q W) (hk : k < n) (hr : ro k = .mas ∨ ∃ o, ro k = .bat o) {r : List Nat} (hw : W (cl k) = k :: r) : Quiet n cl ro (cl k) := fun m m1 m2 p o m3 => by
  have := h.rw m m1 p o m3 k r (by rw [m2]; exact hw)
  rcases hr with q | ⟨o', q⟩ <;> (rw [q] at this; cases this)
/-- (4) it knows its batch's last one -/
theorem s_of (h : Cor n cl nd A ro V T K X P F g Q W) (hk : k < n) (hr : ro k = .mas) (h0 : K (cl k) = (o : Int)) (e0 : ro' k = .bat o) (e : ∀ u, u ≠ k → ro' u = ro u) : Cor n cl nd A ro' V T K X P F g Q W := by
  obtain ⟨r, hw⟩ := h.rm k hk hr
  have kW : k ∈ W (cl k) := by rw [hw]; exact List.mem_cons_self
  have kQ : ∀ x ∈ Q, x ≠ k := fun x hx q => (h.mw _ k kW).2.2.1 (q ▸ hx)
  have hqt := h.quiet hk (.inl hr) hw
  refine ⟨h.nq, h.nw, ?mq, ?mw, ?ri, ?rl, ?rm, ?rb, ?rs, ?rw, ?ru, ?rg, ?rh, ?gs, h.nr, h.ni, h.fr, h.fn, h.xf, ?xr, h.xq, h.xw, h.t0, h.tl, h.k0, h.kl, ?aq, ?hq, ?aw, ?hw, ?st, h.f1, h.f2⟩
  case mq => intro y hy; rw [e y (kQ y hy)]; exact h.mq y hy
  case mw => intro c y hy; obtain ⟨a1, a2, a3, a4⟩ := h.mw c y hy; refine ⟨a1, a2, a3, ?_⟩; by_cases q : y = k <;> grind
  case ri => intro y hy hr'; by_cases q : y = k
             · subst q; rw [e0] at hr'; rcases hr' with q | q <;> cases q
             · rw [e y q] at hr'; exact h.ri y hy hr'
  case rl => have := h.rl; grind
  case rm => have := h.rm; grind
  case rb =>
    intro y hy o' hl
    by_cases q : y = k
    · subst q
      rw [e0] at hl
      cases hl
      obtain ⟨z, z1, z2, _⟩ := h.kl_mem (c := cl y) (by rw [hw]; simp)
      exact ⟨r, z, hw, by rw [← hw]; exact last_mem z1, by omega⟩
    · rw [e y q] at hl; exact h.rb y hy o' hl
  case rs =>
    intro m hm p o hr'
    have hmk : m ≠ k := by rintro rfl; rw [e0] at hr'; cases hr'
    obtain ⟨a1, a2, a3, a4, a5, a6⟩ := h.rs m hm p o (by rw [← e m hmk]; exact hr')
    refine ⟨a1, a2, a3, a4, a5, fun z y hz hy => ?_⟩
    rw [e y (kQ y (adj_mem hy).2)]
    exact a6 z y hz hy
  case rw =>
    intro m hm p o hr' y r hy
    have hr' : ro m = .spl p o := by rw [← e m (by rintro rfl; rw [e0] at hr'; cases hr')]; exact hr'
    have hc : cl m ≠ cl k := fun q => hqt m hm q p o hr'
    rw [e y (fun q => hc (by subst q; exact ((h.wl _ y (by rw [hy]; exact List.mem_cons_self)).2).symm))]
    exact h.rw m hm p o hr' y r hy
  case ru => have := h.ru; grind
  case rg => have := h.rg; grind
  case rh => have := h.rh; grind
  case gs => have := h.gs; grind
  case xr => have := h.xr; grind
  case aq => intro a b hab; rw [e b (kQ b (adj_mem hab).2)]; exact h.aq a b hab
  case hq => intro y r hy; rw [e y (kQ y (by rw [hy]; exact List.mem_cons_self))]; exact h.hq y r hy
  case aw =>
    intro c a b hab
    rw [e b (fun q => ?_)]
    · exact h.aw c a b hab
    · subst q
      obtain rfl := (h.wl c _ (adj_mem hab).2).2
      exact adj_not_head (h.nw _) hab r hw
  case hw => intro c y r hy hl; have q : y ≠ k := by { rintro rfl; rw [e0] at hl; cases hl }
             rw [e y q] at hl; exact h.hw c y r hy hl
  case st =>
    intro c hc
    obtain ⟨a1, a2⟩ := h.st c hc
    refine ⟨a1, ?_⟩
    rcases a2 with a2 | ⟨m, m1, m2, p, m3⟩
    · exact .inl a2
    · exact .inr ⟨m, m1, m2, p, by rw [e m (by rintro rfl; rw [hr] at m3; cases m3)]; exact m3⟩
/-- its own numbers turn, its place stays: (6) it reads the word, it reads its own -/
theorem s_read (h : Cor n cl nd A ro V T K X P F g Q W) (hk : k < n) (hQ : k ∈ Q) (hr : (∃ o, ro k = .spl 5 o ∧ ro' k = .spl 6 o ∧ V' k = X o) ∨ (ro k = .hold 0 ∧ ro' k = .hold 1 ∧ V' k = X (nd k))) (e : ∀ u, u ≠ k → ro' u = ro u) (v : ∀ u, u ≠ k → V' u = V u) : Cor n cl nd A ro' V' T K X P F g Q W := by
  have kW : ∀ c, ∀ x ∈ W c, x ≠ k := fun c x hx q => (h.mw c x hx).2.2.1 (by rw [q]; exact hQ)
  have nl : ro' k ≠ .loc ∧ ro' k ≠ .idle ∧ ro' k ≠ .fresh ∧ ro' k ≠ .mas ∧ ro' k ≠ .glo ∧ (∀ o, ro' k ≠ .bat o) ∧ ro k ≠ .loc := by
    rcases hr with ⟨o, q1, q2, _⟩ | ⟨q1, q2, _⟩ <;> (rw [q1, q2]; simp)
  refine ⟨h.nq, h.nw, ?mq, ?mw, ?ri, ?rl, ?rm, ?rb, ?rs, ?rw, ?ru, ?rg, ?rh, ?gs, h.nr, h.ni, h.fr, h.fn, h.xf, ?xr, h.xq, h.xw, h.t0, h.tl, h.k0, h.kl, ?aq, ?hq, ?aw, ?hw, ?st, h.f1, h.f2⟩
  case mq =>
    intro y hy
    by_cases q : y = k
    · subst q
      refine ⟨hk, ?_⟩
      rcases hr with ⟨o, _, q2, _⟩ | ⟨_, q2, _⟩ <;> rw [q2]
      · exact .inr (.inl ⟨_, _, rfl⟩)
      · exact .inr (.inr (.inr ⟨_, rfl⟩))
    · rw [e y q]; exact h.mq y hy
  case mw => intro c y hy; rw [e y (kW c y hy)]; exact h.mw c y hy
  case ri => intro y hy hr'; by_cases q : y = k
             · subst q; exact absurd hr' (by simp [nl])
             · rw [e y q] at hr'; exact h.ri y hy hr'
  case rl => have := h.rl; grind
  case rm => have := h.rm; grind
  case rb => have := h.rb; grind
  case rs =>
    intro m hm p o hr'
    by_cases hmk : m = k
    · subst hmk
      rcases hr with ⟨o', q1, q2, q3⟩ | ⟨_, q2, _⟩
      · rw [q2] at hr'
        cases hr'
        obtain ⟨a1, a2, a3, a4, a5, a6⟩ := h.rs m hm 5 o q1
        refine ⟨.inr rfl, a2, a3, a4, fun _ => q3, fun z y hz hy => ?_⟩
        by_cases q : y = m
        · subst q; exact nl.1
        · rw [e y q]; exact a6 z y hz hy
      · rw [q2] at hr'; cases hr'
    · obtain ⟨a1, a2, a3, a4, a5, a6⟩ := h.rs m hm p o (by rw [← e m hmk]; exact hr')
      refine ⟨a1, a2, a3, a4, by rw [v m hmk]; exact a5, fun z y hz hy => ?_⟩
      by_cases q : y = k
      · subst q; exact nl.1
      · rw [e y q]; exact a6 z y hz hy
  case rw =>
    intro m hm p o hr' y r hy
    rw [e y (kW _ y (by rw [hy]; exact List.mem_cons_self))]
    by_cases q : m = k
    · subst q
      rcases hr with ⟨o', q1, _, _⟩ | ⟨_, q2, _⟩
      · exact h.rw m hm _ _ q1 y r hy
      · rw [q2] at hr'; cases hr'
    · rw [e m q] at hr'; exact h.rw m hm p o hr' y r hy
  case ru =>
    have back : ∀ m p o, ro' m = .spl p o → ∃ p' o', ro m = .spl p' o' := fun m p o q => by
      by_cases hm : m = k
      · subst hm
        rcases hr with ⟨o', q1, _, _⟩ | ⟨_, q2, _⟩
        · exact ⟨_, _, q1⟩
        · rw [q2] at q; cases q
      · exact ⟨p, o, by rw [← e m hm]; exact q⟩
    intro a b ha hb p o p' o' r1 r2 hc
    obtain ⟨_, _, r1⟩ := back a p o r1
    obtain ⟨_, _, r2⟩ := back b p' o' r2
    exact h.ru a b ha hb _ _ _ _ r1 r2 hc
  case rg => have := h.rg; grind
  case rh =>
    intro y hy p hl
    by_cases q : y = k
    · subst q
      rcases hr with ⟨o, _, q2, _⟩ | ⟨q1, _, _⟩
      · rw [q2] at hl; cases hl
      · exact h.rh y hy _ q1
    · rw [e y q] at hl; exact h.rh y hy p hl
  case gs =>
    intro t ht
    obtain ⟨a1, r, p, a2, a3, a4, a5⟩ := h.gs t ht
    refine ⟨a1, ?_⟩
    by_cases q : t = k
    · subst q
      rcases hr with ⟨o, q1, _, _⟩ | ⟨q1, q2, q3⟩
      · rw [a3] at q1; cases q1
      · exact ⟨r, 1, a2, q2, .inr rfl, fun _ => q3⟩
    · exact ⟨r, p, a2, by rw [e t q]; exact a3, a4, by rw [v t q]; exact a5⟩
  case xr => have := h.xr; grind
  case aq =>
    intro a b hab
    refine ⟨(h.aq a b hab).1, fun hl => ?_⟩
    have q : b ≠ k := by rintro rfl; exact nl.1 hl
    rw [e b q] at hl
    exact (h.aq a b hab).2 hl
  case hq =>
    intro y r hy
    refine ⟨(h.hq y r hy).1, fun hl => ?_⟩
    have q : y ≠ k := by rintro rfl; exact nl.1 hl
    rw [e y q] at hl
    exact (h.hq y r hy).2 hl
  case aw => intro c a b hab; rw [e b (kW c b (adj_mem hab).2)]; exact h.aw c a b hab
  case hw => intro c y r hy; rw [e y (kW c y (by rw [hy]; exact List.mem_cons_self))]; exact h.hw c y r hy
  case st =>
    intro c hc
    obtain ⟨a1, a2⟩ := h.st c hc
    refine ⟨a1, ?_⟩
    rcases a2 with a2 | ⟨m, m1, m2, p, m3⟩
    · exact .inl a2
    · by_cases q : m = k
      · subst q
        rcases hr with ⟨o', q1, q2, _⟩ | ⟨q1, _, _⟩
        · rw [q1] at m3; cases m3; exact .inr ⟨m, m1, m2, 6, q2⟩
        · rw [q1] at m3; cases m3
      · exact .inr ⟨m, m1, m2, p, by rw [e m q]; exact m3⟩
/-- (7) its batch's last one is spliced -/
theorem s_cas (h : Cor n cl nd A ro V T K X P F g Q W) (hk : k < n) (hr : ro k = .spl 6 o) (e0 : ro' k = .glo) (e : ∀ u, u ≠ k → ro' u = ro u) (x0 : wCl (X' o) = wCl (X o) ∧ wWt (X' o) = wWt (X o) ∧ wSp (X' o) = 1) (x : ∀ j, j ≠ o → X' j = X j) : Cor n cl nd A ro' V T K X' P F g Q W := by
  obtain ⟨_, b2, ⟨z0, z1, z2, z3⟩, b4, b5, b6⟩ := h.rs k hk 6 o hr
  have hQ : k ∈ Q := (pre_mem z2).1
  have zQ : z0 ∈ Q := (pre_mem z2).2
  have zn := h.ql z0 zQ
  have kW : ∀ c, ∀ x ∈ W c, x ≠ k := fun c x hx q => (h.mw c x hx).2.2.1 (by rw [q]; exact hQ)
  have xo : ∀ y, y < n → y ≠ z0 → X' (nd y) = X (nd y) := fun y hy q => x _ (by rw [← z1]; exact h.nne zn hy q)
  have xW : ∀ c, ∀ y ∈ W c, X' (nd y) = X (nd y) := fun c y hy => xo y (h.wl c y hy).1 fun q => (h.mw c y hy).2.2.1 (by rw [q]; exact zQ)
  have iF : X' F = X F := x _ fun q => h.fn z0 zn (by rw [z1, q])
  have oth : ∀ m, m < n → ∀ p o', ro' m = .spl p o' → ro m = .spl p o' ∧ m ≠ k ∧ o' ≠ o := fun m hm p o' hr' => by
    have hmk : m ≠ k := by rintro rfl; rw [e0] at hr'; cases hr'
    rw [e m hmk] at hr'
    refine ⟨hr', hmk, fun q => ?_⟩
    obtain ⟨_, _, ⟨z, y1, y2, y3⟩, _⟩ := h.rs m hm p o' hr'
    have : z = z0 := h.ni z z0 (h.ql z (pre_mem y2).2) zn (by rw [y1, z1, q])
    subst this
    exact hmk (h.ru m k hm hk _ _ _ _ hr' hr (by rw [← y3, ← z3]))
  refine ⟨h.nq, h.nw, ?mq, ?mw, ?ri, ?rl, ?rm, ?rb, ?rs, ?rw, ?ru, ?rg, ?rh, ?gs, h.nr, h.ni, h.fr, h.fn, ?xf, ?xr, ?xq, ?xw, h.t0, h.tl, h.k0, h.kl, ?aq, ?hq, ?aw, ?hw, ?st, h.f1, h.f2⟩
  case mq =>
    intro y hy
    by_cases q : y = k
    · subst q; rw [e0]; exact ⟨hk, .inr (.inr (.inl rfl))⟩
    · rw [e y q]; exact h.mq y hy
  case mw => intro c y hy; rw [e y (kW c y hy)]; exact h.mw c y hy
  case ri => intro y hy hr'; by_cases q : y = k
             · subst q; rw [e0] at hr'; rcases hr' with q | q <;> cases q
             · rw [e y q] at hr'; exact h.ri y hy hr'
  case rl => have := h.rl; grind
  case rm => have := h.rm; grind
  case rb => have := h.rb; grind
  case rs =>
    intro m hm p o' hr'
    obtain ⟨hr1, hmk, ho⟩ := oth m hm p o' hr'
    obtain ⟨a1, a2, a3, a4, a5, a6⟩ := h.rs m hm p o' hr1
    refine ⟨a1, a2, a3, by rw [x _ ho]; exact a4, by rw [x _ ho]; exact a5, fun z y hz hy => ?_⟩
    by_cases q : y = k
    · subst q; rw [e0]; intro q; cases q
    · rw [e y q]; exact a6 z y hz hy
  case rw =>
    intro m hm p o' hr' y r hy
    obtain ⟨hr1, hmk, ho⟩ := oth m hm p o' hr'
    rw [e y (kW _ y (by rw [hy]; exact List.mem_cons_self))]
    exact h.rw m hm p o' hr1 y r hy
  case ru =>
    intro a b ha hb p o p' o' r1 r2 hc
    exact h.ru a b ha hb _ _ _ _ (oth a ha _ _ r1).1 (oth b hb _ _ r2).1 hc
  case rg =>
    intro y hy hl
    by_cases q : y = k
    · rw [q]; exact hQ
    · rw [e y q] at hl; exact h.rg y hy hl
  case rh => have := h.rh; grind
  case gs =>
    intro t ht
    obtain ⟨a1, r, p, a2, a3, a4, a5⟩ := h.gs t ht
    have q : t ≠ k := by rintro rfl; rw [hr] at a3; cases a3
    refine ⟨a1, r, p, a2, by rw [e t q]; exact a3, a4, ?_⟩
    rw [xo t a1 (fun q2 => ?_)]
    · exact a5
    · subst q2
      have hn := h.nq
      rw [a2] at z2 hn
      exact q (pre_head hn z2).symm
  case xf => rw [iF]; exact h.xf
  case xr =>
    intro y hy hl
    have q : y ≠ k := by rintro rfl; rw [e0] at hl; cases hl
    rw [e y q] at hl
    rw [xo y hy (fun q2 => (h.ri y hy (.inr hl)).1 (by rw [q2]; exact zQ))]
    exact h.xr y hy hl
  case xq =>
    intro y hy
    by_cases q : y = z0
    · subst q
      rw [z1, x0.1, x0.2.1, ← z1]; exact h.xq y hy
    · rw [xo y (h.ql y hy) q]; exact h.xq y hy
  case xw => intro c y hy; rw [xW c y hy]; exact h.xw c y hy
  case aq =>
    intro a b hab
    refine ⟨(h.aq a b hab).1, fun hl => ?_⟩
    have q : b ≠ k := by rintro rfl; rw [e0] at hl; cases hl
    rw [e b q] at hl
    have q2 : a ≠ z0 := fun q2 => b6 a b (by rw [q2]; exact z1) hab hl
    rw [xo a (h.ql a (adj_mem hab).1) q2]
    exact (h.aq a b hab).2 hl
  case hq =>
    intro y r hy
    refine ⟨(h.hq y r hy).1, fun hl => ?_⟩
    have q : y ≠ k := by rintro rfl; rw [e0] at hl; cases hl
    rw [e y q] at hl
    rw [iF]
    exact (h.hq y r hy).2 hl
  case aw => intro c a b hab; rw [e b (kW c b (adj_mem hab).2)]; exact h.aw c a b hab
  case hw => intro c y r hy; rw [e y (kW c y (by rw [hy]; exact List.mem_cons_self))]; exact h.hw c y r hy
  case st =>
    intro c hc
    obtain ⟨a1, a2⟩ := h.st c hc
    refine ⟨a1, ?_⟩
    by_cases q : P c = o
    · rw [q]; exact .inl (.inl (by rw [x0.2.2]; decide))
    · rw [x _ q]
      rcases a2 with a2 | ⟨m, m1, m2, p, m3⟩
      · exact .inl a2
      · by_cases qm : m = k
        · subst qm; rw [hr] at m3; cases m3; exact absurd rfl q
        · exact .inr ⟨m, m1, m2, p, by rw [e m qm]; exact m3⟩
theorem cut (h : Cor n cl nd A ro V T K X P F g Q W) (hk : k < n) (hr : ro k = .bat o) : ∃ z s B, W (cl k) = (k :: s) ++ B ∧ Last (k :: s) z ∧ nd z = o := by
  obtain ⟨r, z, h1, h2, h3⟩ := h.rb k hk o hr
  rw [← h1] at h2
  obtain ⟨S, B, hs⟩ := List.append_of_mem h2
  have : ∃ s, S ++ [z] = k :: s := by
    cases S with
    | nil => rw [hs] at h1; simp at h1; exact ⟨[], by simp [h1.1]⟩
    | cons a S => rw [hs] at h1; simp at h1; exact ⟨S ++ [z], by simp [h1.1]⟩
  obtain ⟨s, q⟩ := this
  exact ⟨z, s, B, by rw [hs, ← q]; simp, ⟨S, q.symm⟩, h3⟩
/-- (5) its batch arrives -/
theorem s_arr (h : Cor n cl nd A ro V T K X P F g Q W) (hk : k < n) (hr : ro k = .bat o) {z : Nat} {s B : List Nat} (hw : W (cl k) = (k :: s) ++ B) (hz : Last (k :: s) z) (ho : nd z = o) (e0 : ro' k = .spl 5 o) (e : ∀ u, u ≠ k → ro' u = ro u) (t0 : T' = (o : Int)) (a0 : (A' k : Int) = T) (a : ∀ u, u ≠ k → A' u = A u) (w0 : W' (cl k) = B) (w : ∀ c, c ≠ cl k → W' c = W c) (p0 : P' (cl k) = o) (p : ∀ c, c ≠ cl k → P' c = P c) :
    Cor n cl nd A' ro' V T' K X P' F g (Q ++ k :: s) W' := by
  have hwk : ∃ r, W (cl k) = k :: r := ⟨s ++ B, hw⟩
  obtain ⟨rr, hwr⟩ := hwk
  have hqt := h.quiet hk (.inr ⟨o, hr⟩) hwr
  have sW : ∀ x ∈ k :: s, x ∈ W (cl k) := fun x hx => by rw [hw]; exact List.mem_append_left _ hx
  have bW : ∀ x ∈ B, x ∈ W (cl k) := fun x hx => by rw [hw]; exact List.mem_append_right _ hx
  have hnd := h.nw (cl k)
  rw [hw, List.nodup_append] at hnd
  obtain ⟨nd1, nd2, nd3⟩ := hnd
  have sQ : ∀ x ∈ k :: s, x ∉ Q := fun x hx => (h.mw _ x (sW x hx)).2.2.1
  have kQ : ∀ x ∈ Q, x ≠ k := fun x hx q => sQ k List.mem_cons_self (q ▸ hx)
  have bk : ∀ x ∈ B, x ≠ k := fun x hx q => nd3 k List.mem_cons_self x hx q.symm
  have nh : ∀ x y, Adj (W (cl k)) x y → y ≠ k := fun x y hxy q => by subst q; exact adj_not_head (h.nw _) hxy rr hwr
  have sA : ∀ x y, Adj (k :: s) x y → Adj (W (cl k)) x y := fun x y hxy => by rw [hw]; exact adj_pre hxy
  have bA : ∀ x y, Adj B x y → Adj (W (cl k)) x y := fun x y hxy => by rw [hw]; exact adj_suf hxy
  have zs : z ∈ k :: s := last_mem hz
  have zn : z < n := (h.wl _ z (sW z zs)).1
  have zc : cl z = cl k := (h.wl _ z (sW z zs)).2
  have zB : ∀ y r, B = y :: r → Adj (W (cl k)) z y := fun y r hy => by
    obtain ⟨S', q⟩ := hz
    rw [hw, q, hy]
    exact ⟨S', r, by simp⟩
  have sl : ∀ x ∈ k :: s, x ≠ k → ro x = .loc ∧ ∃ x', x' ∈ k :: s ∧ x' ≠ z ∧ A x = nd x' := fun x hx hn => by
    obtain ⟨x', hx'⟩ := adj_of hx (fun r q => hn (List.cons.inj q).1.symm)
    obtain ⟨b1, b2⟩ := h.aw _ x' x (sA _ _ hx')
    exact ⟨b2, x', (adj_mem hx').1, fun q => adj_last nd1 hx' (q ▸ hz), b1⟩
  have nQ : (Q ++ k :: s).Nodup := by
    rw [List.nodup_append]
    exact ⟨h.nq, nd1, fun x hx y hy q => sQ y hy (q ▸ hx)⟩
  have lQ : ∀ x ∈ Q ++ k :: s, x < n := fun x hx => by
    rcases List.mem_append.1 hx with hx | hx
    · exact h.ql x hx
    · exact (h.wl _ x (sW x hx)).1
  have zl : Last (Q ++ k :: s) z := last_suf hz
  have cne : ∀ c, c ≠ cl k → ∀ x ∈ W c, x ≠ k ∧ x ∉ k :: s := fun c hc x hx => ⟨fun q => hc (by rw [← q]; exact ((h.wl c x hx).2).symm), fun q => hc (by rw [← (h.wl _ x (sW x q)).2]; exact ((h.wl c x hx).2).symm)⟩
  refine ⟨nQ, ?nw, ?mq, ?mw, ?ri, ?rl, ?rm, ?rb, ?rs, ?rw, ?ru, ?rg, ?rh, ?gs, h.nr, h.ni, h.fr, h.fn, h.xf, ?xr, ?xq, ?xw, ?t0, ?tl, ?k0, ?kl, ?aq, ?hq, ?aw, ?hw, ?st, ?f1, ?f2⟩
  case nw => intro c; by_cases q : c = cl k
             · rw [q, w0]; exact nd2
             · rw [w c q]; exact h.nw c
  case mq =>
    intro y hy
    rcases List.mem_append.1 hy with hy | hy
    · rw [e y (kQ y hy)]; exact h.mq y hy
    · refine ⟨(h.wl _ y (sW y hy)).1, ?_⟩
      by_cases q : y = k
      · rw [q, e0]; exact .inr (.inl ⟨_, _, rfl⟩)
      · rw [e y q]; exact .inl (sl y hy q).1
  case mw =>
    intro c y hy
    by_cases q : c = cl k
    · subst q
      rw [w0] at hy
      rw [e y (bk y hy)]
      obtain ⟨b1, b2, b3, b4⟩ := h.mw _ y (bW y hy)
      exact ⟨b1, b2, fun q => (List.mem_append.1 q).elim b3 fun q => nd3 y q y hy rfl, b4⟩
    · rw [w c q] at hy
      obtain ⟨q1, q2⟩ := cne c q y hy
      rw [e y q1]
      obtain ⟨b1, b2, b3, b4⟩ := h.mw _ y hy
      exact ⟨b1, b2, fun q => (List.mem_append.1 q).elim b3 q2, b4⟩
  case ri =>
    intro y hy hr'
    have q : y ≠ k := by rintro rfl; rw [e0] at hr'; rcases hr' with q | q <;> cases q
    rw [e y q] at hr'
    obtain ⟨b1, b2⟩ := h.ri y hy hr'
    have b3 : y ∉ k :: s := fun q => b2 (by rw [(h.wl _ y (sW y q)).2]; exact sW y q)
    refine ⟨fun q => (List.mem_append.1 q).elim b1 b3, fun q2 => ?_⟩
    by_cases q3 : cl y = cl k
    · rw [q3, w0] at q2; exact b2 (by rw [q3]; exact bW y q2)
    · rw [w _ q3] at q2; exact b2 q2
  case rl =>
    intro y hy hl
    have q : y ≠ k := by rintro rfl; rw [e0] at hl; cases hl
    rw [e y q] at hl
    rcases h.rl y hy hl with b | b
    · exact .inl (List.mem_append_left _ b)
    · by_cases q3 : cl y = cl k
      · rw [q3, hw] at b
        rcases List.mem_append.1 b with b | b
        · exact .inl (List.mem_append_right _ b)
        · exact .inr (by rw [q3, w0]; exact b)
      · exact .inr (by rw [w _ q3]; exact b)
  case rm =>
    intro y hy hl
    have q : y ≠ k := by rintro rfl; rw [e0] at hl; cases hl
    rw [e y q] at hl
    obtain ⟨r, b⟩ := h.rm y hy hl
    refine ⟨r, ?_⟩
    rw [w _ (fun q3 => ?_)]
    · exact b
    · rw [q3, hwr] at b; exact q (List.cons.inj b).1.symm
  case rb =>
    intro y hy o' hl
    have q : y ≠ k := by rintro rfl; rw [e0] at hl; cases hl
    rw [e y q] at hl
    obtain ⟨r, z', b, b2, b3⟩ := h.rb y hy o' hl
    refine ⟨r, z', ?_, b2, b3⟩
    rw [w _ (fun q3 => ?_)]
    · exact b
    · rw [q3, hwr] at b; exact q (List.cons.inj b).1.symm
  case rs =>
    intro m hm p' o' hr'
    by_cases hmk : m = k
    · subst hmk
      rw [e0] at hr'
      cases hr'
      refine ⟨.inl rfl, p0, ⟨z, ho, pre_new zs, zc⟩, by rw [← ho]; exact (h.xw _ z (sW z zs)).2.2, fun q => (by cases q), fun z' y hz' hy => ?_⟩
      have : z' = z := h.ni z' z (lQ z' (adj_mem hy).1) zn (by rw [hz', ho])
      subst this
      exact absurd zl (adj_last nQ hy)
    · rw [e m hmk] at hr'
      obtain ⟨a1, a2, ⟨z1, z2, z3, z4⟩, a4, a5, a6⟩ := h.rs m hm p' o' hr'
      have hc : cl m ≠ cl k := fun q => hqt m hm q p' o' hr'
      refine ⟨a1, by rw [p _ hc]; exact a2, ⟨z1, z2, pre_more z3, z4⟩, a4, a5, fun z' y hz' hy => ?_⟩
      rcases adj_app hy with hy | ⟨_, rfl⟩ | hy
      · rw [e y (kQ y (adj_mem hy).2)]; exact a6 z' y hz' hy
      · rw [e0]; intro q; cases q
      · have hz2 := (adj_mem hy).1
        have : z' = z1 := h.ni z' z1 (h.wl _ z' (sW z' hz2)).1 (h.ql z1 (pre_mem z3).2) (by rw [hz', z2])
        subst this
        exact absurd (pre_mem z3).2 (sQ z' hz2)
  case rw =>
    intro m hm p' o' hr' y r hy
    by_cases hmk : m = k
    · subst hmk
      rw [w0] at hy
      have := zB y r hy
      rw [e y (nh _ _ this)]
      exact (h.aw _ z y this).2
    · rw [e m hmk] at hr'
      have hc : cl m ≠ cl k := fun q => hqt m hm q p' o' hr'
      rw [w _ hc] at hy
      rw [e y (cne _ hc y (by rw [hy]; exact List.mem_cons_self)).1]
      exact h.rw m hm p' o' hr' y r hy
  case ru =>
    intro m m' hm hm' p1 o1 p2 o2 r1 r2 hc
    by_cases q1 : m = k
    · by_cases q2 : m' = k
      · rw [q1, q2]
      · rw [e m' q2] at r2
        exact absurd r2 (hqt m' hm' (by rw [← hc, q1]) _ _)
    · rw [e m q1] at r1
      by_cases q2 : m' = k
      · exact absurd r1 (hqt m hm (by rw [hc, q2]) _ _)
      · rw [e m' q2] at r2
        exact h.ru m m' hm hm' _ _ _ _ r1 r2 hc
  case rg =>
    intro y hy hl
    have q : y ≠ k := by rintro rfl; rw [e0] at hl; cases hl
    rw [e y q] at hl
    exact List.mem_append_left _ (h.rg y hy hl)
  case rh => have := h.rh; grind
  case gs =>
    intro t ht
    obtain ⟨a1, r, p', a2, a3, a4, a5⟩ := h.gs t ht
    have q : t ≠ k := by rintro rfl; rw [hr] at a3; cases a3
    exact ⟨a1, r ++ k :: s, p', by rw [a2]; rfl, by rw [e t q]; exact a3, a4, a5⟩
  case xr => have := h.xr; grind
  case xq =>
    intro y hy
    rcases List.mem_append.1 hy with hy | hy
    · exact h.xq y hy
    · obtain ⟨b1, b2, _⟩ := h.xw _ y (sW y hy)
      rw [(h.wl _ y (sW y hy)).2]
      exact ⟨b1, b2⟩
  case xw =>
    intro c y hy
    by_cases q : c = cl k
    · subst q; rw [w0] at hy; exact h.xw _ y (bW y hy)
    · rw [w c q] at hy; exact h.xw c y hy
  case t0 => intro q; simp at q
  case tl => intro y hy; rw [last_uniq hy zl, ho]; exact t0
  case k0 =>
    intro c hc
    by_cases q : c = cl k
    · subst q
      rw [w0] at hc
      rw [p0, ← ho]
      refine h.kl _ z ?_
      rw [hw, hc, List.append_nil]; exact hz
    · rw [w c q] at hc; rw [p c q]; exact h.k0 c hc
  case kl =>
    intro c y hy
    by_cases q : c = cl k
    · subst q
      rw [w0] at hy
      exact h.kl _ y (by rw [hw]; exact last_suf hy)
    · rw [w c q] at hy; exact h.kl c y hy
  case aq =>
    intro x y hxy
    rcases adj_app hxy with hy | ⟨hl, rfl⟩ | hy
    · have q := kQ y (adj_mem hy).2
      rw [e y q, a y q]; exact h.aq x y hy
    · refine ⟨?_, fun q => by rw [e0] at q; cases q⟩
      have := h.tl x hl; omega
    · have hy2 := sA _ _ hy
      have q := nh _ _ hy2
      obtain ⟨b1, b2⟩ := h.aw _ x y hy2
      rw [a y q]
      exact ⟨b1, fun _ => ⟨by rw [(h.wl _ y (adj_mem hy2).2).2, (h.wl _ x (adj_mem hy2).1).2], (h.xw _ x (adj_mem hy2).1).2.2⟩⟩
  case hq =>
    intro y r hy
    cases hQ : Q with
    | nil =>
      rw [hQ] at hy
      obtain ⟨rfl, _⟩ := List.cons.inj hy
      have := h.t0 hQ
      exact ⟨by omega, fun q => by rw [e0] at q; cases q⟩
    | cons b Q1 =>
      rw [hQ] at hy
      obtain ⟨rfl, _⟩ := List.cons.inj hy
      have q := kQ b (by rw [hQ]; exact List.mem_cons_self)
      rw [e b q, a b q]
      exact h.hq b Q1 hQ
  case aw =>
    intro c x y hxy
    have : Adj (W c) x y ∧ y ≠ k := by
      by_cases q : c = cl k
      · subst q; rw [w0] at hxy; exact ⟨bA _ _ hxy, nh _ _ (bA _ _ hxy)⟩
      · rw [w c q] at hxy; exact ⟨hxy, (cne c q y (adj_mem hxy).2).1⟩
    rw [e y this.2, a y this.2]
    exact h.aw c x y this.1
  case hw =>
    intro c y r hy hl
    by_cases q : c = cl k
    · subst q
      rw [w0] at hy
      have hzy := zB y r hy
      rw [a y (nh _ _ hzy), p0, ← ho]
      exact ⟨(h.aw _ z y hzy).1, fun q => by have := (h.nr z zn).1; omega⟩
    · rw [w c q] at hy
      have q2 := (cne c q y (by rw [hy]; exact List.mem_cons_self)).1
      rw [e y q2] at hl
      rw [a y q2, p c q]
      exact h.hw c y r hy hl
  case st =>
    intro c hc
    by_cases q : c = cl k
    · subst q
      rw [p0]
      exact ⟨by rw [← ho]; exact (h.nr z zn).2, .inr ⟨k, hk, rfl, 5, e0⟩⟩
    · rw [p c q] at hc ⊢
      obtain ⟨a1, a2⟩ := h.st c hc
      refine ⟨a1, ?_⟩
      rcases a2 with a2 | ⟨m, m1, m2, p', m3⟩
      · exact .inl a2
      · exact .inr ⟨m, m1, m2, p', by rw [e m (by rintro rfl; exact q m2.symm)]; exact m3⟩
  case f1 =>
    intro y hy hn
    have hn : y ∉ Q ∧ y ∉ k :: s := ⟨fun q => hn (List.mem_append_left _ q), fun q => hn (List.mem_append_right _ q)⟩
    by_cases q : cl y = cl k
    · rw [q, p0, ← ho]
      exact h.nne zn hy fun q => hn.2 (q ▸ zs)
    · rw [p _ q]; exact h.f1 y hy hn.1
  case f2 =>
    intro y hy
    by_cases q : cl y = cl k
    · rw [q, p0, ← ho]
      by_cases qk : y = k
      · subst qk
        by_cases hQ : Q = []
        · have := h.t0 hQ
          have := h.fn z zn
          omega
        · obtain ⟨l, hl⟩ := last_ex hQ
          have := h.tl l hl
          have q3 := h.nne zn (h.ql l (last_mem hl)) (fun q => sQ z zs (q ▸ last_mem hl))
          omega
      · rw [a y qk]
        rcases List.mem_append.1 hy with hy | hy
        · by_cases hh : ∃ r, Q = y :: r
          · obtain ⟨r, hh⟩ := hh
            rw [(h.hq y r hh).1]
            exact fun q => h.fn z zn q.symm
          · obtain ⟨x, hx⟩ := adj_of hy (fun r hq => hh ⟨r, hq⟩)
            rw [(h.aq x y hx).1]
            exact h.nne zn (h.ql x (adj_mem hx).1) fun q => sQ z zs (q ▸ (adj_mem hx).1)
        · obtain ⟨_, x', x1, x2, x3⟩ := sl y hy qk
          rw [x3]
          exact h.nne zn (h.wl _ x' (sW x' x1)).1 x2
    · rw [p _ q, a y (fun q2 => q (by rw [q2]))]
      rcases List.mem_append.1 hy with hy | hy
      · exact h.f2 y hy
      · exact absurd (h.wl _ y (sW y hy)).2 q
/-- the lock is given back: its node is the one that was ahead -/
theorem s_free (h : Cor n cl nd A ro V T K X P F (some k) Q W) (e0 : ro' k = .idle) (e : ∀ u, u ≠ k → ro' u = ro u) (n0 : nd' k = A k) (nn : ∀ u, u ≠ k → nd' u = nd u) (x0 : wCl (X' (nd k)) = wCl (X (nd k)) ∧ wWt (X' (nd k)) = 0 ∧ wSp (X' (nd k)) = wSp (X (nd k))) (x : ∀ j, j ≠ nd k → X' j = X j) : ∃ r, Q = k :: r ∧ Cor n cl nd' A ro' V T K X' P (nd k) none r W := by
  obtain ⟨hk, r, p0, rfl, hr, _, _⟩ := h.gs k rfl
  refine ⟨r, rfl, ?_⟩
  have hnd := List.nodup_cons.1 h.nq
  have kW : ∀ c, ∀ x ∈ W c, x ≠ k := fun c x hx q => (h.mw c x hx).2.2.1 (by rw [q]; exact List.mem_cons_self)
  have rk : ∀ x ∈ r, x ≠ k := fun x hx q => hnd.1 (q ▸ hx)
  have hA : A k = F := (h.hq k r rfl).1
  have rn : ∀ y ∈ r, y < n := fun y hy => h.ql y (List.mem_cons_of_mem _ hy)
  have xr : ∀ y ∈ r, X' (nd' y) = X (nd y) := fun y hy => by rw [nn y (rk y hy)]; exact x _ (h.nne hk (rn y hy) (rk y hy))
  have xW : ∀ c, ∀ y ∈ W c, X' (nd' y) = X (nd y) := fun c y hy => by rw [nn y (kW c y hy)]; exact x _ (h.nne hk (h.wl c y hy).1 (kW c y hy))
  have hsp : ∀ m, m < n → ∀ p o, ro' m = .spl p o → ro m = .spl p o ∧ m ≠ k := fun m hm p o hr' => by
    have hmk : m ≠ k := by rintro rfl; rw [e0] at hr'; cases hr'
    exact ⟨by rw [← e m hmk]; exact hr', hmk⟩
  have hso : ∀ m, m < n → ∀ p o, ro m = .spl p o → m ≠ k → X' o = X o ∧ ∃ z, nd' z = o ∧ Pre r m z ∧ cl z = cl m := fun m hm p o hr' hmk => by
    obtain ⟨_, _, ⟨z, z1, z2, z3⟩, _⟩ := h.rs m hm p o hr'
    have zk : z ≠ k := fun q => hmk (pre_head h.nq (q ▸ z2))
    have z2 := pre_tail z2 hmk
    exact ⟨by rw [← z1]; exact x _ (h.nne hk (rn z (pre_mem z2).2) zk), z, by rw [nn z zk]; exact z1, z2, z3⟩
  refine ⟨hnd.2, h.nw, ?mq, ?mw, ?ri, ?rl, ?rm, ?rb, ?rs, ?rw, ?ru, ?rg, ?rh, fun t q => (by cases q), ?nr, ?ni, h.nr k hk, ?fn, x0.2.1, ?xr, ?xq, ?xw, ?t0, ?tl, h.k0, ?kl, ?aq, ?hq, ?aw, ?hw, ?st, ?f1, fun y hy => h.f2 y (List.mem_cons_of_mem _ hy)⟩
  case mq => intro y hy; rw [e y (rk y hy)]; exact h.mq y (List.mem_cons_of_mem _ hy)
  case mw =>
    intro c y hy
    rw [e y (kW c y hy)]
    obtain ⟨b1, b2, b3, b4⟩ := h.mw c y hy
    exact ⟨b1, b2, fun q => b3 (List.mem_cons_of_mem _ q), b4⟩
  case ri =>
    intro y hy hr'
    by_cases q : y = k
    · subst q; exact ⟨hnd.1, fun q => kW _ y q rfl⟩
    · rw [e y q] at hr'
      obtain ⟨b1, b2⟩ := h.ri y hy hr'
      exact ⟨fun q => b1 (List.mem_cons_of_mem _ q), b2⟩
  case rl =>
    intro y hy hl
    have q : y ≠ k := by rintro rfl; rw [e0] at hl; cases hl
    rw [e y q] at hl
    exact (h.rl y hy hl).imp (fun b => (List.mem_cons.1 b).resolve_left q) id
  case rm => have := h.rm; grind
  case rb =>
    intro y hy o hl
    have q : y ≠ k := by rintro rfl; rw [e0] at hl; cases hl
    rw [e y q] at hl
    obtain ⟨r', z, b1, b2, b3⟩ := h.rb y hy o hl
    exact ⟨r', z, b1, b2, by rw [nn z (kW _ z (by rw [b1]; exact b2))]; exact b3⟩
  case rs =>
    intro m hm p o hr'
    obtain ⟨hr', hmk⟩ := hsp m hm p o hr'
    obtain ⟨a1, a2, _, a4, a5, a6⟩ := h.rs m hm p o hr'
    obtain ⟨b1, b2⟩ := hso m hm p o hr' hmk
    refine ⟨a1, a2, b2, by rw [b1]; exact a4, by rw [b1]; exact a5, fun z y hz hy => ?_⟩
    have q := rk y (adj_mem hy).2
    have q2 := rk z (adj_mem hy).1
    rw [nn z q2] at hz
    rw [e y q]
    exact a6 z y hz (adj_cons hy)
  case rw =>
    intro m hm p o hr' y r' hy
    obtain ⟨hr', hmk⟩ := hsp m hm p o hr'
    rw [e y (kW _ y (by rw [hy]; exact List.mem_cons_self))]
    exact h.rw m hm p o hr' y r' hy
  case ru =>
    intro a b ha hb p o p' o' r1 r2 hc
    exact h.ru a b ha hb _ _ _ _ (hsp a ha _ _ r1).1 (hsp b hb _ _ r2).1 hc
  case rg =>
    intro y hy hl
    have q : y ≠ k := by rintro rfl; rw [e0] at hl; cases hl
    rw [e y q] at hl
    exact (List.mem_cons.1 (h.rg y hy hl)).resolve_left q
  case rh =>
    intro y hy p hl
    have q : y ≠ k := by rintro rfl; rw [e0] at hl; cases hl
    rw [e y q] at hl
    exact absurd (Option.some.inj (h.rh y hy p hl)).symm q
  case nr =>
    intro y hy
    by_cases q : y = k
    · subst q; rw [n0, hA]; exact h.fr
    · rw [nn y q]; exact h.nr y hy
  case ni =>
    intro y y' hy hy' hq
    by_cases q : y = k
    · by_cases q2 : y' = k
      · rw [q, q2]
      · rw [q, n0, hA, nn y' q2] at hq
        exact absurd hq.symm (h.fn y' hy')
    · by_cases q2 : y' = k
      · rw [q2, n0, hA, nn y q] at hq
        exact absurd hq (h.fn y hy)
      · rw [nn y q, nn y' q2] at hq; exact h.ni y y' hy hy' hq
  case fn =>
    intro y hy
    by_cases q : y = k
    · subst q; rw [n0, hA]; exact fun q => h.fn y hy q.symm
    · rw [nn y q]; exact h.nne hk hy q
  case xr =>
    intro y hy hl
    have q : y ≠ k := by rintro rfl; rw [e0] at hl; cases hl
    rw [e y q] at hl
    rw [nn y q, x _ (h.nne hk hy q)]
    exact h.xr y hy hl
  case xq => intro y hy; rw [xr y hy]; exact h.xq y (List.mem_cons_of_mem _ hy)
  case xw => intro c y hy; rw [xW c y hy]; exact h.xw c y hy
  case t0 => intro q; subst q; exact h.tl k last_one
  case tl => intro y hy; rw [nn y (rk y (last_mem hy))]; exact h.tl y (last_cons hy)
  case kl => intro c y hy; rw [nn y (kW c y (last_mem hy))]; exact h.kl c y hy
  case aq =>
    intro a b hab
    have q := rk a (adj_mem hab).1
    rw [e b (rk b (adj_mem hab).2), xr a (adj_mem hab).1, nn a q]
    exact h.aq a b (adj_cons hab)
  case hq =>
    intro y r' hy
    subst hy
    obtain ⟨b1, b2⟩ := h.aq k y adj_head
    rw [e y (rk y List.mem_cons_self), x0.1, x0.2.2]
    refine ⟨b1, fun hl => ?_⟩
    obtain ⟨c1, c2⟩ := b2 hl
    exact ⟨by rw [(h.xq k List.mem_cons_self).1, c1], c2⟩
  case aw => intro c a b hab; rw [e b (kW c b (adj_mem hab).2), nn a (kW c a (adj_mem hab).1)]; exact h.aw c a b hab
  case hw => intro c y r' hy; rw [e y (kW c y (by rw [hy]; exact List.mem_cons_self))]; exact h.hw c y r' hy
  case st =>
    intro c hc
    obtain ⟨a1, a2⟩ := h.st c hc
    refine ⟨a1, ?_⟩
    rcases a2 with a2 | ⟨m, m1, m2, p, m3⟩
    · left
      by_cases q : P c = nd k
      · rw [q, x0.1, x0.2.2, ← q]; exact a2
      · rw [x _ q]; exact a2
    · exact .inr ⟨m, m1, m2, p, by rw [e m (by rintro rfl; rw [hr] at m3; cases m3)]; exact m3⟩
  case f1 =>
    intro y hy hn
    by_cases q : y = k
    · subst q; rw [n0]; exact h.f2 y List.mem_cons_self
    · rw [nn y q]
      exact h.f1 y hy fun q2 => (List.mem_cons.1 q2).elim q hn
theorem arng (h : Cor n cl nd A ro V T K X P F g Q W) (hk : k < n) (hr : ro k = .loc ∨ ro k = .glo) : 1 ≤ A k ∧ A k ≤ n + 1 := by
  have key : k ∈ Q → 1 ≤ A k ∧ A k ≤ n + 1 := fun hm => by
    by_cases hh : ∃ r, Q = k :: r
    · obtain ⟨r, hh⟩ := hh
      rw [(h.hq k r hh).1]; exact h.fr
    · obtain ⟨x, hx⟩ := adj_of hm (fun r hq => hh ⟨r, hq⟩)
      rw [(h.aq x k hx).1]; exact h.nr x (h.ql x (adj_mem hx).1)
  rcases hr with hr | hr
  · rcases h.rl k hk hr with hm | hm
    · exact key hm
    · by_cases hh : ∃ r, W (cl k) = k :: r
      · obtain ⟨r, hh⟩ := hh
        obtain ⟨a1, a2⟩ := h.hw _ k r hh hr
        have := h.st _ a2
        omega
      · obtain ⟨x, hx⟩ := adj_of hm (fun r hq => hh ⟨r, hq⟩)
        rw [(h.aw _ x k hx).1]; exact h.nr x (h.wl _ x (adj_mem hx).1).1
  · exact key (h.rg k hk hr)
theorem knn (h : Cor n cl nd A ro V T K X P F g Q W) (c : Nat) : ∃ m : Nat, K c = (m : Int) := by
  by_cases q : W c = []
  · exact ⟨_, h.k0 c q⟩
  · obtain ⟨z, _, z2, _⟩ := h.kl_mem q
    exact ⟨_, z2⟩
theorem tnn (h : Cor n cl nd A ro V T K X P F g Q W) : ∃ m : Nat, T = (m : Int) := by
  by_cases q : Q = []
  · exact ⟨_, h.t0 q⟩
  · obtain ⟨z, hz⟩ := last_ex q
    exact ⟨_, h.tl z hz⟩
theorem start (n : Nat) (cl A : Nat → Nat) (nd : Nat → Nat) (hnd : ∀ t, nd t = t + 1) (ro : Nat → Ro) (hro : ∀ t, ro t = .idle) (V : Nat → Int) (K X : Nat → Int) (hK : ∀ c, K c = 0) (hX : wWt (X (n + 1)) = 0) : Cor n cl nd A ro V ((n + 1 : Nat) : Int) K X (fun _ => 0) (n + 1) none [] (fun _ => []) := by
  have nadj : ∀ {x y : Nat}, ¬ Adj [] x y := fun h => by have := (adj_mem h).1; cases this
  refine ⟨List.nodup_nil, fun _ => List.nodup_nil, fun x hx => (by cases hx), fun c x hx => (by cases hx), fun x _ _ => ⟨by simp, by simp⟩, fun x _ h => ?_, fun x _ h => ?_, fun x _ o h => ?_, fun x _ p o h => ?_, fun x _ p o h => ?_, fun x y _ _ p o p' o' h => ?_, fun x _ h => ?_, fun x _ p h => ?_, fun t h => (by cases h), fun x hx => ?_, fun x y _ _ h => ?_, ⟨by omega, by omega⟩, fun x hx => ?_, hX, fun x _ h => ?_, fun x hx => (by cases hx), fun c x hx => (by cases hx), fun _ => rfl, fun k h => ?_, fun c _ => hK c, fun c k h => ?_, fun x y h => absurd h nadj, fun y r h => (by cases h), fun c x y h => absurd h nadj, fun c y r h => (by cases h), fun c h => absurd rfl h, fun x _ _ => ?_, fun x hx => (by cases hx)⟩
  all_goals first | (rw [hro] at h; cases h) | (rw [hnd]; omega) | (rw [hnd, hnd] at h; omega) | (have := last_mem h; cases this)
end Cor
end Go.Proofs.YteacdcdjdbobnaaGreat
