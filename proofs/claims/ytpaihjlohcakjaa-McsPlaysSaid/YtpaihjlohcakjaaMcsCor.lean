/- What holds of an MCS lock at all times, of its numbers alone: the queue's order, who has stored its number into whose next, whose locked is set; no heap, no walk. -/
import Derived.Test.YtpaihjlohcakjaaMcsPlain
namespace Go.Proofs.Ytpaihjlohcakjaa
set_option linter.unusedVariables false
set_option maxRecDepth 100000

/-! ### the queue's links -/
/-- how far j has come behind i -/
def Lnk (pc oth N K : Nat → Int) (i j : Nat) : Prop :=
  (pc j = 2 ∧ oth j = (i : Int) + 1 ∧ N i = 0) ∨ (pc j = 3 ∧ oth j = (i : Int) + 1 ∧ K j = 1 ∧ N i = 0) ∨ (pc j = 4 ∧ K j = 1 ∧ N i = (j : Int) + 1)
def Chn (pc oth N K : Nat → Int) : List Nat → Prop
  | [] => True
  | [k] => N k = 0
  | i :: j :: r => Lnk pc oth N K i j ∧ Chn pc oth N K (j :: r)
/-- the last one's number, else e -/
def lastM : Int → List Nat → Int
  | e, [] => e
  | _, k :: r => lastM ((k : Int) + 1) r
theorem lastM_more (e : Int) (Q : List Nat) (k : Nat) : lastM e (Q ++ [k]) = (k : Int) + 1 := by
  induction Q generalizing e with
  | nil => rfl
  | cons a r ih => exact ih _
theorem lastM_pos (e : Int) (k : Nat) (r : List Nat) : ∃ j ∈ k :: r, lastM e (k :: r) = (j : Int) + 1 := by
  induction r generalizing e k with
  | nil => exact ⟨k, List.mem_cons_self, rfl⟩
  | cons a r ih =>
    obtain ⟨j, hj, h⟩ := ih ((k : Int) + 1) a
    exact ⟨j, List.mem_cons_of_mem _ hj, h⟩
section
variable {pc oth N K pc' oth' N' K' : Nat → Int}
theorem chn_same {Q : List Nat} (h : Chn pc oth N K Q) (hN : ∀ j ∈ Q, N' j = N j) (hs : ∀ j ∈ Q.tail, pc' j = pc j ∧ oth' j = oth j ∧ K' j = K j) : Chn pc' oth' N' K' Q := by
  induction Q with
  | nil => trivial
  | cons i r ih =>
    cases r with
    | nil => exact (hN i List.mem_cons_self).trans h
    | cons j r =>
      obtain ⟨a, b, c⟩ := hs j List.mem_cons_self
      refine ⟨?_, ih h.2 (fun x hx => hN x (List.mem_cons_of_mem _ hx)) fun x hx => hs x (List.mem_cons_of_mem _ hx)⟩
      have h1 := h.1
      unfold Lnk at h1 ⊢
      rw [a, b, c, hN i List.mem_cons_self]
      exact h1
/-- one who has swapped sets its locked -/
theorem chn_lkd {Q : List Nat} (h : Chn pc oth N K Q) (hn : Q.Nodup) {k : Nat} (hk : k ∈ Q.tail) (hp : pc k = 2) : Chn (upd pc k 3) oth N (upd K k 1) Q := by
  induction Q with
  | nil => cases hk
  | cons i r ih =>
    cases r with
    | nil => cases hk
    | cons j r =>
      have hk : k ∈ j :: r := hk
      by_cases e : j = k
      · subst e
        have hnr : j ∉ r := (List.nodup_cons.1 (List.nodup_cons.1 hn).2).1
        refine ⟨?_, chn_same h.2 (fun _ _ => rfl) fun x hx => ?_⟩
        · rcases h.1 with a | a | a
          · exact .inr (.inl ⟨upd_same _ _ _, a.2.1, upd_same _ _ _, a.2.2⟩)
          · omega
          · omega
        · have hx : x ∈ r := hx
          have e2 : x ≠ j := fun q => hnr (q ▸ hx)
          exact ⟨upd_other _ _ e2, rfl, upd_other _ _ e2⟩
      · have hk2 : k ∈ r := by rcases List.mem_cons.1 hk with q | q; exact absurd q.symm e; exact q
        refine ⟨?_, ih h.2 (List.nodup_cons.1 hn).2 hk2⟩
        have h1 := h.1
        unfold Lnk at h1 ⊢
        rw [upd_other _ _ e, upd_other _ _ e]
        exact h1
/-- who is ahead of one who hasn't stored its number yet -/
theorem chn_ahead {Q : List Nat} (h : Chn pc oth N K Q) (hn : Q.Nodup) {k : Nat} (hk : k ∈ Q.tail) (hp : pc k = 2 ∨ pc k = 3) : ∃ i ∈ Q, i ≠ k ∧ oth k = (i : Int) + 1 := by
  induction Q with
  | nil => cases hk
  | cons i r ih =>
    cases r with
    | nil => cases hk
    | cons j r =>
      have hk : k ∈ j :: r := hk
      by_cases e : j = k
      · subst e
        refine ⟨i, List.mem_cons_self, fun q => (List.nodup_cons.1 hn).1 (q ▸ hk), ?_⟩
        rcases h.1 with a | a | a
        · exact a.2.1
        · exact a.2.1
        · omega
      · have hk2 : k ∈ r := by rcases List.mem_cons.1 hk with q | q; exact absurd q.symm e; exact q
        obtain ⟨i2, a, b, c⟩ := ih h.2 (List.nodup_cons.1 hn).2 hk2
        exact ⟨i2, List.mem_cons_of_mem _ a, b, c⟩
/-- it stores its number into the next of the one ahead -/
theorem chn_nxt {Q : List Nat} (h : Chn pc oth N K Q) (hn : Q.Nodup) {k i : Nat} (hk : k ∈ Q.tail) (hp : pc k = 3) (hi : oth k = (i : Int) + 1) : Chn (upd pc k 4) oth (upd N i ((k : Int) + 1)) K Q := by
  induction Q with
  | nil => cases hk
  | cons i0 r ih =>
    cases r with
    | nil => cases hk
    | cons j r =>
      have hk : k ∈ j :: r := hk
      have hi0 : i0 ∉ j :: r := (List.nodup_cons.1 hn).1
      by_cases e : j = k
      · subst e
        have hnr : j ∉ r := (List.nodup_cons.1 (List.nodup_cons.1 hn).2).1
        have e0 : i = i0 ∧ K j = 1 := by
          rcases h.1 with a | a | a
          · omega
          · have := a.2.1; exact ⟨by omega, a.2.2.1⟩
          · omega
        obtain ⟨rfl, eK⟩ := e0
        refine ⟨.inr (.inr ⟨upd_same _ _ _, eK, upd_same _ _ _⟩), chn_same h.2 (fun x hx => upd_other _ _ fun q => hi0 (q ▸ hx)) fun x hx => ?_⟩
        have hx : x ∈ r := hx
        exact ⟨upd_other _ _ fun q => hnr (q ▸ hx), rfl, rfl⟩
      · have hk2 : k ∈ r := by rcases List.mem_cons.1 hk with q | q; exact absurd q.symm e; exact q
        obtain ⟨i2, a, b, c⟩ := chn_ahead h.2 (List.nodup_cons.1 hn).2 (k := k) hk2 (.inr hp)
        have e2 : i2 = i := by omega
        subst e2
        refine ⟨?_, ih h.2 (List.nodup_cons.1 hn).2 hk2⟩
        have h1 := h.1
        unfold Lnk at h1 ⊢
        rw [upd_other _ _ e, upd_other _ _ fun q => hi0 (by rw [q]; exact a)]
        exact h1
/-- one comes behind the last one -/
theorem chn_more {Q : List Nat} (h : Chn pc oth N K Q) (h0 : Q ≠ []) {k : Nat} (hk : k ∉ Q) (hp : pc k = 2) (ho : oth k = lastM 0 Q) (hN : N k = 0) : Chn pc oth N K (Q ++ [k]) := by
  have key : ∀ (Q : List Nat) (e : Int), Chn pc oth N K Q → Q ≠ [] → oth k = lastM e Q → Chn pc oth N K (Q ++ [k]) := by
    intro Q
    induction Q with
    | nil => intro e _ h0; exact absurd rfl h0
    | cons i r ih =>
      intro e h _ ho
      cases r with
      | nil => exact ⟨.inl ⟨hp, ho, h⟩, hN⟩
      | cons j r => exact ⟨h.1, ih ((i : Int) + 1) h.2 (by simp) ho⟩
  exact key Q 0 h h0 ho
theorem chn_rest {k : Nat} {Q : List Nat} (h : Chn pc oth N K (k :: Q)) : Chn pc oth N K Q := by
  cases Q with
  | nil => trivial
  | cons j r => exact h.2
/-- of one who is behind another one -/
theorem chn_at {Q : List Nat} (h : Chn pc oth N K Q) {k : Nat} (hk : k ∈ Q.tail) : pc k = 2 ∨ pc k = 3 ∨ (pc k = 4 ∧ K k = 1) := by
  induction Q with
  | nil => cases hk
  | cons i r ih =>
    cases r with
    | nil => cases hk
    | cons j r =>
      have hk : k ∈ j :: r := hk
      by_cases e : j = k
      · subst e
        rcases h.1 with a | a | a
        · exact .inl a.1
        · exact .inr (.inl a.1)
        · exact .inr (.inr ⟨a.1, a.2.1⟩)
      · have hk2 : k ∈ r := by rcases List.mem_cons.1 hk with q | q; exact absurd q.symm e; exact q
        exact ih h.2 hk2
end

/-! ### all of it -/
structure Cor (n : Nat) (st pc oth : Nat → Int) (T : Int) (N K : Nat → Int) (g : Option Nat) (W : List Nat) : Prop where
  nodup : (g.toList ++ W).Nodup
  lt : ∀ k ∈ g.toList ++ W, k < n
  tl : T = lastM 0 (g.toList ++ W)
  prg : ∀ j, 0 ≤ pc j ∧ pc j ≤ 4
  inq : ∀ j, j < n → st j = 1 → (2 ≤ pc j ↔ j ∈ g.toList ++ W)
  pcI : ∀ j, j < n → st j ≠ 1 → st j ≠ 3 → pc j = 0
  pc3 : ∀ j, j < n → st j = 3 → pc j ≤ 3
  stg : ∀ k, g = some k → st k = 2 ∨ st k = 3 ∨ st k = 4
  stw : ∀ k ∈ W, st k = 1
  sto : ∀ k, k < n → k ∉ g.toList ++ W → st k = 0 ∨ st k = 1
  ch : Chn pc oth N K (g.toList ++ W)
  out : ∀ j, j < n → st j = 1 → pc j = 1 → N j = 0
  hd : g = none → ∀ k r, W = k :: r → pc k = 4 ∧ K k = 0
  un2 : ∀ k, g = some k → st k = 3 → pc k = 2 → W ≠ []
  un3 : ∀ k, g = some k → st k = 3 → pc k = 3 → ∃ j r, W = j :: r ∧ oth k = (j : Int) + 1 ∧ pc j = 4
namespace Cor
variable {n : Nat} {st pc oth : Nat → Int} {T : Int} {N K : Nat → Int} {g : Option Nat} {W : List Nat}
theorem held (h : Cor n st pc oth T N K g W) {k : Nat} (hk : k < n) (hs : st k = 2 ∨ st k = 3 ∨ st k = 4) : g = some k := by
  by_cases hm : k ∈ g.toList ++ W
  · rcases List.mem_append.1 hm with hm | hm
    · simpa using hm
    · have := h.stw k hm; omega
  · have := h.sto k hk hm; omega
theorem idle (h : Cor n st pc oth T N K g W) {k : Nat} (hs : st k = 0) : k ∉ g.toList ++ W := fun hm => by
  rcases List.mem_append.1 hm with hm | hm
  · have := h.stg k (by simpa using hm); omega
  · have := h.stw k hm; omega
theorem away (h : Cor n st pc oth T N K g W) {k : Nat} (hk : k < n) (hs : st k = 1) (hp : pc k < 2) : k ∉ g.toList ++ W := fun hm => by
  have := (h.inq k hk hs).2 hm; omega
theorem waits (h : Cor n st pc oth T N K g W) {k : Nat} (hk : k < n) (hs : st k = 1) (hp : 2 ≤ pc k) : k ∈ W := by
  rcases List.mem_append.1 ((h.inq k hk hs).1 hp) with hm | hm
  · have := h.stg k (by simpa using hm); omega
  · exact hm
theorem notW {k : Nat} (h : Cor n st pc oth T N K (some k) W) : k ∉ W := (List.nodup_cons.1 h.nodup).1
/-- behind another one -/
theorem behind (h : Cor n st pc oth T N K g W) {k : Nat} (hm : k ∈ W) (hne : g = none → ∀ r, W ≠ k :: r) : k ∈ (g.toList ++ W).tail := by
  cases g with
  | some a => exact hm
  | none =>
    cases W with
    | nil => cases hm
    | cons j r =>
      rcases List.mem_cons.1 hm with rfl | hm
      · exact absurd rfl (hne rfl r)
      · exact hm
/-- what one does becomes something that its place allows -/
theorem lock (h : Cor n st pc oth T N K g W) {k : Nat} (hk : k < n) (s0 : st k = 0) : Cor n (upd st k 1) pc oth T N K g W := by
  have hn := h.idle s0
  have p0 := h.pcI k hk (by omega) (by omega)
  refine ⟨h.nodup, h.lt, h.tl, h.prg, fun j hj hs => ?_, fun j hj h1 h3 => ?_, fun j hj hs => ?_, fun j hj => ?_, fun j hj => ?_, fun j hj hnj => ?_, h.ch, fun j hj hs hp => ?_, h.hd, fun j hj hs => ?_, fun j hj hs => ?_⟩
  · by_cases e : j = k
    · subst e; exact ⟨fun q => by omega, fun q => absurd q hn⟩
    · rw [upd_other _ _ e] at hs; exact h.inq j hj hs
  · by_cases e : j = k
    · subst e; exact p0
    · rw [upd_other _ _ e] at h1 h3; exact h.pcI j hj h1 h3
  · by_cases e : j = k
    · subst e; omega
    · rw [upd_other _ _ e] at hs; exact h.pc3 j hj hs
  · rw [upd_other _ _ fun e => hn (by subst e; exact List.mem_append_left _ (by rw [hj]; simp))]; exact h.stg j hj
  · rw [upd_other _ _ fun e => hn (by subst e; exact List.mem_append_right _ hj)]; exact h.stw j hj
  · by_cases e : j = k
    · subst e; rw [upd_same]; exact .inr rfl
    · rw [upd_other _ _ e]; exact h.sto j hj hnj
  · by_cases e : j = k
    · subst e; omega
    · rw [upd_other _ _ e] at hs; exact h.out j hj hs hp
  · have e : j ≠ k := fun e => hn (by subst e; exact List.mem_append_left _ (by rw [hj]; simp))
    rw [upd_other _ _ e] at hs; exact h.un2 j hj hs
  · have e : j ≠ k := fun e => hn (by subst e; exact List.mem_append_left _ (by rw [hj]; simp))
    rw [upd_other _ _ e] at hs; exact h.un3 j hj hs
/-- who holds begins something, or is done with it -/
theorem turn (h : Cor n st pc oth T N K g W) {k : Nat} (hk : k < n) (s2 : st k = 2 ∨ st k = 4) {x : Int} (hx : x = 2 ∨ x = 3 ∨ x = 4) : Cor n (upd st k x) pc oth T N K g W := by
  have hg := h.held hk (by omega)
  subst hg
  have p0 := h.pcI k hk (by omega) (by omega)
  have hnW := h.notW
  refine ⟨h.nodup, h.lt, h.tl, h.prg, fun j hj hs => ?_, fun j hj h1 h3 => ?_, fun j hj hs => ?_, fun j hj => ?_, fun j hj => ?_, fun j hj hnj => ?_, h.ch, fun j hj hs hp => ?_, h.hd, fun j hj hs hp => ?_, fun j hj hs hp => ?_⟩
  · by_cases e : j = k
    · subst e; rw [upd_same] at hs; omega
    · rw [upd_other _ _ e] at hs; exact h.inq j hj hs
  · by_cases e : j = k
    · subst e; exact p0
    · rw [upd_other _ _ e] at h1 h3; exact h.pcI j hj h1 h3
  · by_cases e : j = k
    · subst e; omega
    · rw [upd_other _ _ e] at hs; exact h.pc3 j hj hs
  · obtain rfl : k = j := Option.some.inj hj
    rw [upd_same]; exact hx
  · rw [upd_other _ _ fun e => hnW (by subst e; exact hj)]; exact h.stw j hj
  · rw [upd_other _ _ fun e => hnj (by subst e; simp)]; exact h.sto j hj hnj
  · by_cases e : j = k
    · subst e; omega
    · rw [upd_other _ _ e] at hs; exact h.out j hj hs hp
  · obtain rfl : k = j := Option.some.inj hj
    omega
  · obtain rfl : k = j := Option.some.inj hj
    omega
/-- (1) it stores 0 into its next -/
theorem nxt0 (h : Cor n st pc oth T N K g W) {k : Nat} (hk : k < n) (s1 : st k = 1) (p0 : pc k = 0) : Cor n st (upd pc k 1) oth T (upd N k 0) K g W := by
  have hn := h.away hk s1 (by omega)
  have ne : ∀ j ∈ g.toList ++ W, j ≠ k := fun j hj e => hn (by subst e; exact hj)
  refine ⟨h.nodup, h.lt, h.tl, fun j => ?_, fun j hj hs => ?_, fun j hj h1 h3 => ?_, fun j hj hs => ?_, h.stg, h.stw, h.sto, ?_, fun j hj hs hp => ?_, fun hg a r hW => ?_, fun j hj hs hp => ?_, fun j hj hs hp => ?_⟩
  · by_cases e : j = k
    · subst e; rw [upd_same]; omega
    · rw [upd_other _ _ e]; exact h.prg j
  · by_cases e : j = k
    · subst e; rw [upd_same]; exact ⟨fun q => by omega, fun q => absurd q hn⟩
    · rw [upd_other _ _ e]; exact h.inq j hj hs
  · rw [upd_other _ _ fun e => h1 (by rw [e]; exact s1)]; exact h.pcI j hj h1 h3
  · rw [upd_other _ _ fun e => by subst e; omega]; exact h.pc3 j hj hs
  · exact chn_same h.ch (fun j hj => upd_other _ _ (ne j hj)) fun j hj => ⟨upd_other _ _ (ne j (List.mem_of_mem_tail hj)), rfl, rfl⟩
  · by_cases e : j = k
    · subst e; rw [upd_same]
    · rw [upd_other _ _ e] at hp ⊢; exact h.out j hj hs hp
  · have := h.hd hg a r hW
    rw [upd_other _ _ (ne a (List.mem_append_right _ (by rw [hW]; simp)))]; exact this
  · rw [upd_other _ _ fun e => by subst e; omega] at hp; exact h.un2 j hj hs hp
  · rw [upd_other _ _ fun e => by subst e; omega] at hp
    obtain ⟨a, r, q1, q2, q3⟩ := h.un3 j hj hs hp
    exact ⟨a, r, q1, q2, by rw [upd_other _ _ (ne a (List.mem_append_right _ (by rw [q1]; simp)))]; exact q3⟩
/-- (2) it swaps, and nobody is ahead -/
theorem enq0 (h : Cor n st pc oth T N K none []) {k : Nat} (hk : k < n) (s1 : st k = 1) (p1 : pc k = 1) (x : Int) : Cor n (upd st k 2) (upd pc k 0) (upd oth k x) ((k : Int) + 1) N K (some k) [] := by
  have n0 := h.out k hk s1 p1
  refine ⟨by simp, fun j hj => ?_, rfl, fun j => ?_, fun j hj hs => ?_, fun j hj h1 h3 => ?_, fun j hj hs => ?_, fun j hj => ?_, fun j hj => (by cases hj), fun j hj hnj => ?_, n0, fun j hj hs hp => ?_, fun hg => (by cases hg), fun j hj hs hp => ?_, fun j hj hs hp => ?_⟩
  · obtain rfl : j = k := by simpa using hj
    exact hk
  · by_cases e : j = k
    · subst e; rw [upd_same]; omega
    · rw [upd_other _ _ e]; exact h.prg j
  · by_cases e : j = k
    · subst e; rw [upd_same] at hs; omega
    · rw [upd_other _ _ e] at hs ⊢
      have := h.inq j hj hs
      simp at this ⊢
      exact ⟨fun q => by omega, fun q => absurd q e⟩
  · by_cases e : j = k
    · subst e; rw [upd_same]
    · rw [upd_other _ _ e] at h1 h3 ⊢; exact h.pcI j hj h1 h3
  · by_cases e : j = k
    · subst e; rw [upd_same]; omega
    · rw [upd_other _ _ e] at hs ⊢; exact h.pc3 j hj hs
  · obtain rfl : k = j := Option.some.inj hj
    rw [upd_same]; exact .inl rfl
  · rw [upd_other _ _ fun e => hnj (by subst e; simp)]; exact h.sto j hj (by simp)
  · by_cases e : j = k
    · subst e; rw [upd_same] at hs; omega
    · rw [upd_other _ _ e] at hs hp; exact h.out j hj hs hp
  · obtain rfl : k = j := Option.some.inj hj
    rw [upd_same] at hs; omega
  · obtain rfl : k = j := Option.some.inj hj
    rw [upd_same] at hs; omega
/-- (2) it swaps, behind another one -/
theorem enq (h : Cor n st pc oth T N K g W) (h0 : g.toList ++ W ≠ []) {k : Nat} (hk : k < n) (s1 : st k = 1) (p1 : pc k = 1) : Cor n st (upd pc k 2) (upd oth k T) ((k : Int) + 1) N K g (W ++ [k]) := by
  have hn := h.away hk s1 (by omega)
  have ne : ∀ j ∈ g.toList ++ W, j ≠ k := fun j hj e => hn (by subst e; exact hj)
  have n0 := h.out k hk s1 p1
  have mem : ∀ j, j ∈ g.toList ++ (W ++ [k]) ↔ j ∈ g.toList ++ W ∨ j = k := fun j => by rw [← List.append_assoc, List.mem_append, List.mem_singleton]
  refine ⟨?_, fun j hj => ?_, by rw [← List.append_assoc, lastM_more], fun j => ?_, fun j hj hs => ?_, fun j hj h1 h3 => ?_, fun j hj hs => ?_, h.stg, fun j hj => ?_, fun j hj hnj => ?_, ?_, fun j hj hs hp => ?_, fun hg a r hW => ?_, fun j hj hs hp => by simp, fun j hj hs hp => ?_⟩
  · rw [← List.append_assoc, List.nodup_append]
    exact ⟨h.nodup, by simp, fun a h1 b h2 q => by rw [List.mem_singleton] at h2; subst q; subst h2; exact hn h1⟩
  · rcases (mem j).1 hj with hj | rfl
    · exact h.lt j hj
    · exact hk
  · by_cases e : j = k
    · subst e; rw [upd_same]; omega
    · rw [upd_other _ _ e]; exact h.prg j
  · rw [mem]
    by_cases e : j = k
    · subst e; rw [upd_same]; simp
    · rw [upd_other _ _ e, h.inq j hj hs]; simp [e]
  · rw [upd_other _ _ fun e => h1 (by rw [e]; exact s1)]; exact h.pcI j hj h1 h3
  · rw [upd_other _ _ fun e => by subst e; omega]; exact h.pc3 j hj hs
  · rcases List.mem_append.1 hj with hj | hj
    · exact h.stw j hj
    · obtain rfl : j = k := by simpa using hj
      exact s1
  · rw [mem, not_or] at hnj; exact h.sto j hj hnj.1
  · rw [← List.append_assoc]
    exact chn_more (chn_same h.ch (fun _ _ => rfl) fun j hj => ⟨upd_other _ _ (ne j (List.mem_of_mem_tail hj)), upd_other _ _ (ne j (List.mem_of_mem_tail hj)), rfl⟩) h0 hn (upd_same _ _ _) ((upd_same _ _ _).trans h.tl) n0
  · by_cases e : j = k
    · subst e; exact n0
    · rw [upd_other _ _ e] at hp; exact h.out j hj hs hp
  · subst hg
    cases W with
    | nil => exact absurd rfl h0
    | cons b r2 =>
      obtain rfl : b = a := (List.cons.inj hW).1
      rw [upd_other _ _ (ne b (by simp))]
      exact h.hd rfl b r2 rfl
  · rw [upd_other _ _ fun e => by subst e; omega] at hp
    obtain ⟨a, r, q1, q2, q3⟩ := h.un3 j hj hs hp
    refine ⟨a, r ++ [k], by rw [q1]; rfl, ?_, ?_⟩
    · rw [upd_other _ _ (ne j (List.mem_append_left _ (by rw [hj]; simp)))]; exact q2
    · rw [upd_other _ _ (ne a (List.mem_append_right _ (by rw [q1]; simp)))]; exact q3
/-- not the first one of a queue that is to be taken -/
theorem late (h : Cor n st pc oth T N K g W) {k : Nat} (hm : k ∈ W) (hp : pc k ≠ 4 ∨ K k ≠ 0) : k ∈ (g.toList ++ W).tail :=
  h.behind hm fun hg r hW => by
    have := h.hd hg k r hW
    rcases hp with q | q
    · exact q this.1
    · exact q this.2
/-- (3) it stores 1 into its locked -/
theorem lkd (h : Cor n st pc oth T N K g W) {k : Nat} (hk : k < n) (s1 : st k = 1) (p2 : pc k = 2) : Cor n st (upd pc k 3) oth T N (upd K k 1) g W := by
  have hm := h.waits hk s1 (by omega)
  have hb := h.late hm (.inl (by omega))
  refine ⟨h.nodup, h.lt, h.tl, fun j => ?_, fun j hj hs => ?_, fun j hj h1 h3 => ?_, fun j hj hs => ?_, h.stg, h.stw, h.sto, chn_lkd h.ch h.nodup hb p2, fun j hj hs hp => ?_, fun hg a r hW => ?_, fun j hj hs hp => ?_, fun j hj hs hp => ?_⟩
  · by_cases e : j = k
    · subst e; rw [upd_same]; omega
    · rw [upd_other _ _ e]; exact h.prg j
  · by_cases e : j = k
    · subst e; rw [upd_same]; exact ⟨fun _ => List.mem_append_right _ hm, fun _ => by omega⟩
    · rw [upd_other _ _ e]; exact h.inq j hj hs
  · rw [upd_other _ _ fun e => h1 (by rw [e]; exact s1)]; exact h.pcI j hj h1 h3
  · rw [upd_other _ _ fun e => by subst e; omega]; exact h.pc3 j hj hs
  · by_cases e : j = k
    · subst e; rw [upd_same] at hp; omega
    · rw [upd_other _ _ e] at hp; exact h.out j hj hs hp
  · have := h.hd hg a r hW
    have e : a ≠ k := fun e => by subst e; omega
    rw [upd_other _ _ e, upd_other _ _ e]; exact this
  · rw [upd_other _ _ fun e => by subst e; omega] at hp; exact h.un2 j hj hs hp
  · rw [upd_other _ _ fun e => by subst e; omega] at hp
    obtain ⟨a, r, q1, q2, q3⟩ := h.un3 j hj hs hp
    exact ⟨a, r, q1, q2, by rw [upd_other _ _ fun e => by subst e; omega]; exact q3⟩
/-- who is ahead of one who is to store its number -/
theorem ahead (h : Cor n st pc oth T N K g W) {k : Nat} (hk : k < n) (s1 : st k = 1) (p3 : pc k = 2 ∨ pc k = 3) : ∃ i, i < n ∧ oth k = (i : Int) + 1 := by
  have hm := h.waits hk s1 (by omega)
  obtain ⟨i, a, _, c⟩ := chn_ahead h.ch h.nodup (h.late hm (.inl (by omega))) p3
  exact ⟨i, h.lt i a, c⟩
/-- (4) it stores its number into the next of the one ahead -/
theorem nxt (h : Cor n st pc oth T N K g W) {k i : Nat} (hk : k < n) (s1 : st k = 1) (p3 : pc k = 3) (hi : oth k = (i : Int) + 1) : Cor n st (upd pc k 4) oth T (upd N i ((k : Int) + 1)) K g W := by
  have hm := h.waits hk s1 (by omega)
  have hb := h.late hm (.inl (by omega))
  obtain ⟨i2, ia, _, ic⟩ := chn_ahead h.ch h.nodup hb (.inr p3)
  obtain rfl : i2 = i := by omega
  refine ⟨h.nodup, h.lt, h.tl, fun j => ?_, fun j hj hs => ?_, fun j hj h1 h3 => ?_, fun j hj hs => ?_, h.stg, h.stw, h.sto, chn_nxt h.ch h.nodup hb p3 hi, fun j hj hs hp => ?_, fun hg a r hW => ?_, fun j hj hs hp => ?_, fun j hj hs hp => ?_⟩
  · by_cases e : j = k
    · subst e; rw [upd_same]; omega
    · rw [upd_other _ _ e]; exact h.prg j
  · by_cases e : j = k
    · subst e; rw [upd_same]; exact ⟨fun _ => List.mem_append_right _ hm, fun _ => by omega⟩
    · rw [upd_other _ _ e]; exact h.inq j hj hs
  · rw [upd_other _ _ fun e => h1 (by rw [e]; exact s1)]; exact h.pcI j hj h1 h3
  · rw [upd_other _ _ fun e => by subst e; omega]; exact h.pc3 j hj hs
  · by_cases e : j = k
    · subst e; rw [upd_same] at hp; omega
    · rw [upd_other _ _ e] at hp
      rw [upd_other _ _ fun q => h.away hj hs (by omega) (by rw [q]; exact ia)]
      exact h.out j hj hs hp
  · have := h.hd hg a r hW
    have e : a ≠ k := fun e => by subst e; omega
    rw [upd_other _ _ e]; exact this
  · rw [upd_other _ _ fun e => by subst e; omega] at hp; exact h.un2 j hj hs hp
  · rw [upd_other _ _ fun e => by subst e; omega] at hp
    obtain ⟨a, r, q1, q2, q3⟩ := h.un3 j hj hs hp
    exact ⟨a, r, q1, q2, by rw [upd_other _ _ fun e => by subst e; omega]; exact q3⟩
/-- (5) of one who looks: it is its turn, or its locked is set -/
theorem looks (h : Cor n st pc oth T N K g W) {k : Nat} (hk : k < n) (s1 : st k = 1) (p4 : pc k = 4) : (g = none ∧ ∃ r, W = k :: r ∧ K k = 0) ∨ K k = 1 := by
  have hm := h.waits hk s1 (by omega)
  by_cases q : g = none ∧ ∃ r, W = k :: r
  · obtain ⟨hg, r, hW⟩ := q
    exact .inl ⟨hg, r, hW, (h.hd hg k r hW).2⟩
  · have hb := h.behind hm fun hg r hW => q ⟨hg, r, hW⟩
    rcases chn_at h.ch hb with a | a | a
    · omega
    · omega
    · exact .inr a.2
theorem grant {k : Nat} (h : Cor n st pc oth T N K none (k :: W)) : Cor n (upd st k 2) (upd pc k 0) oth T N K (some k) W := by
  have hn : k ∉ W := (List.nodup_cons.1 h.nodup).1
  have hk : k < n := h.lt k (by simp)
  refine ⟨h.nodup, h.lt, h.tl, fun j => ?_, fun j hj hs => ?_, fun j hj h1 h3 => ?_, fun j hj hs => ?_, fun j hj => ?_, fun j hj => ?_, fun j hj hnj => ?_, ?_, fun j hj hs hp => ?_, fun hg => (by cases hg), fun j hj hs hp => ?_, fun j hj hs hp => ?_⟩
  · by_cases e : j = k
    · subst e; rw [upd_same]; omega
    · rw [upd_other _ _ e]; exact h.prg j
  · by_cases e : j = k
    · subst e; rw [upd_same] at hs; omega
    · rw [upd_other _ _ e] at hs ⊢; exact h.inq j hj hs
  · by_cases e : j = k
    · subst e; rw [upd_same]
    · rw [upd_other _ _ e] at h1 h3 ⊢; exact h.pcI j hj h1 h3
  · by_cases e : j = k
    · subst e; rw [upd_same]; omega
    · rw [upd_other _ _ e] at hs ⊢; exact h.pc3 j hj hs
  · obtain rfl : k = j := Option.some.inj hj
    rw [upd_same]; exact .inl rfl
  · rw [upd_other _ _ fun e => hn (by subst e; exact hj)]; exact h.stw j (List.mem_cons_of_mem _ hj)
  · rw [upd_other _ _ fun e => hnj (by subst e; simp)]; exact h.sto j hj hnj
  · exact chn_same h.ch (fun _ _ => rfl) fun j hj => ⟨upd_other _ _ fun e => hn (by subst e; exact hj), rfl, rfl⟩
  · by_cases e : j = k
    · subst e; rw [upd_same] at hs; omega
    · rw [upd_other _ _ e] at hs hp; exact h.out j hj hs hp
  · obtain rfl : k = j := Option.some.inj hj
    rw [upd_same] at hs; omega
  · obtain rfl : k = j := Option.some.inj hj
    rw [upd_same] at hs; omega
/-- what stands in the next of one who unlocks -/
theorem nextOf {k : Nat} (h : Cor n st pc oth T N K (some k) W) : (W = [] ∧ N k = 0) ∨ ∃ j r, W = j :: r ∧ ((N k = 0 ∧ (pc j = 2 ∨ pc j = 3)) ∨ (N k = (j : Int) + 1 ∧ pc j = 4 ∧ K j = 1)) := by
  cases W with
  | nil => exact .inl ⟨rfl, h.ch⟩
  | cons j r =>
    refine .inr ⟨j, r, rfl, ?_⟩
    rcases h.ch.1 with a | a | a
    · exact .inl ⟨a.2.2, .inl a.1⟩
    · exact .inl ⟨a.2.2.2, .inr a.1⟩
    · exact .inr ⟨a.2.2, a.1, a.2.1⟩
/-- one who unlocks comes on -/
theorem unl {k : Nat} (h : Cor n st pc oth T N K (some k) W) (s3 : st k = 3) {p x : Int} (hp0 : 0 ≤ p ∧ p ≤ 3) (h2 : p = 2 → W ≠ []) (h3 : p = 3 → ∃ j r, W = j :: r ∧ x = (j : Int) + 1 ∧ pc j = 4) : Cor n st (upd pc k p) (upd oth k x) T N K (some k) W := by
  have hn := h.notW
  have hne : ∀ j ∈ W, j ≠ k := fun j hj e => hn (by subst e; exact hj)
  refine ⟨h.nodup, h.lt, h.tl, fun j => ?_, fun j hj hs => ?_, fun j hj h1 h3 => ?_, fun j hj hs => ?_, h.stg, h.stw, h.sto, ?_, fun j hj hs hp => ?_, fun hg => (by cases hg), fun j hj hs hp => ?_, fun j hj hs hp => ?_⟩
  · by_cases e : j = k
    · subst e; rw [upd_same]; omega
    · rw [upd_other _ _ e]; exact h.prg j
  · rw [upd_other _ _ fun e => by subst e; omega]; exact h.inq j hj hs
  · rw [upd_other _ _ fun e => by subst e; omega]; exact h.pcI j hj h1 h3
  · by_cases e : j = k
    · subst e; rw [upd_same]; omega
    · rw [upd_other _ _ e]; exact h.pc3 j hj hs
  · exact chn_same h.ch (fun _ _ => rfl) fun j hj => ⟨upd_other _ _ (hne j hj), upd_other _ _ (hne j hj), rfl⟩
  · rw [upd_other _ _ fun e => by subst e; omega] at hp; exact h.out j hj hs hp
  · obtain rfl : k = j := Option.some.inj hj
    rw [upd_same] at hp; exact h2 hp
  · obtain rfl : k = j := Option.some.inj hj
    rw [upd_same] at hp
    obtain ⟨a, r, q1, q2, q3⟩ := h3 hp
    exact ⟨a, r, q1, by rw [upd_same]; exact q2, by rw [upd_other _ _ (hne a (by rw [q1]; simp))]; exact q3⟩
/-- the lock is given back, and nobody is behind -/
theorem freeE {k : Nat} (h : Cor n st pc oth T N K (some k) []) : Cor n (upd st k 0) (upd pc k 0) oth 0 N K none [] := by
  have hk : k < n := h.lt k (by simp)
  have hg := h.stg k rfl
  refine ⟨by simp, fun j hj => (by cases hj), rfl, fun j => ?_, fun j hj hs => ?_, fun j hj h1 h3 => ?_, fun j hj hs => ?_, fun j hj => (by cases hj), fun j hj => (by cases hj), fun j hj hnj => ?_, trivial, fun j hj hs hp => ?_, fun _ a r hW => (by cases hW), fun j hj => (by cases hj), fun j hj => (by cases hj)⟩
  · by_cases e : j = k
    · subst e; rw [upd_same]; omega
    · rw [upd_other _ _ e]; exact h.prg j
  · by_cases e : j = k
    · subst e; rw [upd_same] at hs; omega
    · rw [upd_other _ _ e] at hs ⊢
      have := h.inq j hj hs
      simp [e] at this ⊢
      exact this
  · by_cases e : j = k
    · subst e; rw [upd_same]
    · rw [upd_other _ _ e] at h1 h3 ⊢; exact h.pcI j hj h1 h3
  · by_cases e : j = k
    · subst e; rw [upd_same]; omega
    · rw [upd_other _ _ e] at hs ⊢; exact h.pc3 j hj hs
  · by_cases e : j = k
    · subst e; rw [upd_same]; exact .inl rfl
    · rw [upd_other _ _ e]; exact h.sto j hj (by simpa using e)
  · by_cases e : j = k
    · subst e; rw [upd_same] at hs; omega
    · rw [upd_other _ _ e] at hs hp; exact h.out j hj hs hp
/-- the lock is handed over -/
theorem freeW {k j : Nat} {r : List Nat} (h : Cor n st pc oth T N K (some k) (j :: r)) (p4 : pc j = 4) : Cor n (upd st k 0) (upd pc k 0) oth T N (upd K j 0) none (j :: r) := by
  have hk : k < n := h.lt k (by simp)
  have hn := h.notW
  have hne : ∀ i ∈ j :: r, i ≠ k := fun i hi e => hn (by subst e; exact hi)
  have hjr : j ∉ r := (List.nodup_cons.1 (List.nodup_cons.1 h.nodup).2).1
  have hg := h.stg k rfl
  refine ⟨(List.nodup_cons.1 h.nodup).2, fun i hi => h.lt i (List.mem_cons_of_mem _ hi), h.tl, fun i => ?_, fun i hi hs => ?_, fun i hi h1 h3 => ?_, fun i hi hs => ?_, fun i hi => (by cases hi), fun i hi => ?_, fun i hi hni => ?_, ?_, fun i hi hs hp => ?_, fun _ a r2 hW => ?_, fun i hi => (by cases hi), fun i hi => (by cases hi)⟩
  · by_cases e : i = k
    · subst e; rw [upd_same]; omega
    · rw [upd_other _ _ e]; exact h.prg i
  · by_cases e : i = k
    · subst e; rw [upd_same] at hs; omega
    · rw [upd_other _ _ e] at hs ⊢
      rw [h.inq i hi hs]
      show i ∈ k :: j :: r ↔ i ∈ j :: r
      rw [List.mem_cons]
      exact ⟨fun q => q.resolve_left e, .inr⟩
  · by_cases e : i = k
    · subst e; rw [upd_same]
    · rw [upd_other _ _ e] at h1 h3 ⊢; exact h.pcI i hi h1 h3
  · by_cases e : i = k
    · subst e; rw [upd_same]; omega
    · rw [upd_other _ _ e] at hs ⊢; exact h.pc3 i hi hs
  · rw [upd_other _ _ (hne i hi)]; exact h.stw i hi
  · by_cases e : i = k
    · subst e; rw [upd_same]; exact .inl rfl
    · rw [upd_other _ _ e]
      refine h.sto i hi fun q => ?_
      have q : i ∈ k :: j :: r := q
      rcases List.mem_cons.1 q with q | q
      · exact e q
      · exact hni q
  · refine chn_same (chn_rest h.ch) (fun _ _ => rfl) fun i hi => ?_
    have hi : i ∈ r := hi
    exact ⟨upd_other _ _ (hne i (List.mem_cons_of_mem _ hi)), rfl, upd_other _ _ fun e => hjr (by subst e; exact hi)⟩
  · by_cases e : i = k
    · subst e; rw [upd_same] at hs; omega
    · rw [upd_other _ _ e] at hs hp; exact h.out i hi hs hp
  · obtain rfl : j = a := (List.cons.inj hW).1
    rw [upd_same, upd_other _ _ (hne j (by simp))]
    exact ⟨p4, rfl⟩
end Cor
end Go.Proofs.Ytpaihjlohcakjaa
