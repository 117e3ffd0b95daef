/- An MCS lock whose words lie anywhere among a port's, stepped by whatever thread: what holds of it at all times, and its queue; no walk. -/
import Derived.Test.YtkmikkjjnbikdaaGreatCoProj
import Derived.Test.YtkmikkjjnbikdaaGreatSeatNew
import Derived.Test.YtkmikkjjnbikdaaGreatPlanPort
import Derived.Test.YtkmikkjjnbikdaaGreatCoVia
namespace Go.Proofs.YtkmikkjjnbikdaaGreat.Km
open Go.RowKit
set_option linter.unusedVariables false
set_option maxRecDepth 100000

/-! ### plain -/

/-- a lock with its port: its seats, how many steps each context's call has done, the number of the one ahead of it or behind, the port -/
structure FL where
  s : SS
  pc : Nat → Int
  oth : Nat → Int
  ps : PSta
/-- where a lock lies: its struct, its seats' struct and contexts, its places; its words' addresses (tail's, the first next's); its port's place and homes -/
structure Lp where
  lb : Nat
  p : Nat
  b : Nat
  tb : Nat
  a1 : Int
  a2 : Int
  q : Place
  hs : List Int

/-- where a context's next lies, and its locked -/
def Lp.nx (L : Lp) (t : Int) : Int := L.a2 + 2 * t
def Lp.lk (L : Lp) (t : Int) : Int := L.a2 + 2 * t + 1
def casT (s : PSta) (u a old : Int) : Bool := okT s u a && casB s.ws a old

def FL.acq (f : FL) (L : Lp) (t : Nat) (u : Int) : FL :=
  if f.pc t = 0 then { f with pc := upd f.pc t 1, ps := doS f.ps u 2 (L.nx t) 0 0 }
  else if f.pc t = 1 then { f with pc := upd f.pc t (if tellS f.ps u 3 L.a1 = 0 then 0 else 2), oth := upd f.oth t (tellS f.ps u 3 L.a1), ps := doS f.ps u 3 L.a1 0 ((t : Int) + 1) }
  else if f.pc t = 2 then { f with pc := upd f.pc t 3, ps := doS f.ps u 2 (L.lk t) 0 1 }
  else if f.pc t = 3 then { f with pc := upd f.pc t 4, ps := doS f.ps u 2 (L.nx (f.oth t - 1)) 0 ((t : Int) + 1) }
  else { f with pc := upd f.pc t (if tellS f.ps u 1 (L.lk t) = 0 then 0 else 4), ps := doS f.ps u 1 (L.lk t) 0 0 }
def FL.acqD (f : FL) (L : Lp) (t : Nat) (u : Int) : Dd :=
  if f.pc t = 0 then Dd.no
  else if f.pc t = 1 then ⟨if tellS f.ps u 3 L.a1 = 0 then 1 else 0, true, false, false⟩
  else if f.pc t = 2 then Dd.no
  else if f.pc t = 3 then Dd.no
  else if tellS f.ps u 1 (L.lk t) = 0 then ⟨1, false, false, false⟩ else Dd.no
def FL.rel (f : FL) (L : Lp) (t : Nat) (u : Int) : FL :=
  if f.pc t = 0 then { f with pc := upd f.pc t (if tellS f.ps u 1 (L.nx t) = 0 then 1 else 3), oth := upd f.oth t (tellS f.ps u 1 (L.nx t)), ps := doS f.ps u 1 (L.nx t) 0 0 }
  else if f.pc t = 1 then { f with pc := upd f.pc t (if casT f.ps u L.a1 ((t : Int) + 1) = true then 0 else 2), ps := doS f.ps u 4 L.a1 ((t : Int) + 1) 0 }
  else if f.pc t = 2 then { f with pc := upd f.pc t (if tellS f.ps u 1 (L.nx t) = 0 then 2 else 3), oth := upd f.oth t (tellS f.ps u 1 (L.nx t)), ps := doS f.ps u 1 (L.nx t) 0 0 }
  else { f with pc := upd f.pc t 0, ps := doS f.ps u 2 (L.lk (f.oth t - 1)) 0 0 }
def FL.relD (f : FL) (L : Lp) (t : Nat) (u : Int) : Dd :=
  if f.pc t = 0 then Dd.no
  else if f.pc t = 1 then (if casT f.ps u L.a1 ((t : Int) + 1) = true then ⟨3, false, false, false⟩ else Dd.no)
  else if f.pc t = 2 then Dd.no
  else ⟨3, false, false, false⟩
def FL.ask (f : FL) (L : Lp) (t : Nat) (u : Int) : FL := { f with ps := doS f.ps u 1 (L.nx t) 0 0 }
def FL.askD (f : FL) (L : Lp) (t : Nat) (u : Int) : Dd := if tellS f.ps u 1 (L.nx t) = 0 then ⟨4, false, false, false⟩ else ⟨5, false, false, false⟩
/-- behind the access of a step, its event still to come -/
def FL.mid (f : FL) (L : Lp) (t u : Int) : FL := if 0 ≤ t ∧ t < f.s.n then (if f.s.st t.toNat = 1 then f.acq L t.toNat u else if f.s.st t.toNat = 3 then f.rel L t.toNat u else if f.s.st t.toNat = 4 then f.ask L t.toNat u else f) else f
def FL.did (f : FL) (L : Lp) (t u : Int) : Dd := if 0 ≤ t ∧ t < f.s.n then (if f.s.st t.toNat = 1 then f.acqD L t.toNat u else if f.s.st t.toNat = 3 then f.relD L t.toNat u else if f.s.st t.toNat = 4 then f.askD L t.toNat u else Dd.no) else Dd.no
def FL.step (f : FL) (L : Lp) (t u : Int) : FL := { f.mid L t u with s := f.s.fin t (f.did L t u).ev }
def FL.lock (f : FL) (t d : Int) : FL := { f with s := f.s.lock t d }
def FL.turn (f : FL) (t x : Int) : FL := { f with s := f.s.turn t x }
def FL.probe (f : FL) (t : Int) : FL := { f with s := f.s.probe t }

theorem FL.acq_s (f : FL) (L : Lp) (t : Nat) (u : Int) : (f.acq L t u).s = f.s := by unfold FL.acq; repeat' split <;> try rfl
theorem FL.rel_s (f : FL) (L : Lp) (t : Nat) (u : Int) : (f.rel L t u).s = f.s := by unfold FL.rel; repeat' split <;> try rfl
theorem FL.mid_s (f : FL) (L : Lp) (t u : Int) : (f.mid L t u).s = f.s := by
  unfold FL.mid
  repeat' split
  · exact f.acq_s L _ u
  · exact f.rel_s L _ u
  all_goals rfl
end Go.Proofs.YtkmikkjjnbikdaaGreat.Km
namespace Go.Proofs.YtkmikkjjnbikdaaGreat.Km
set_option linter.unusedVariables false
set_option maxRecDepth 100000

/-! ### the queue's links -/
/-- how far j has come behind i -/
def Lnk (pc oth N K : Nat → Int) (i j : Nat) : Prop :=
  (pc j = 2 ∧ oth j = (i : Int) + 1 ∧ N i = 0) ∨ (pc j = 3 ∧ oth j = (i : Int) + 1 ∧ K j = 1 ∧ N i = 0) ∨ (pc j = 4 ∧ K j = 1 ∧ N i = (j : Int) + 1)
def Chn (pc oth N K : Nat → Int) : List Nat → Prop
  | [] => True
  | [k] => N k = 0
  | i :: j :: r => Lnk pc oth N K i j ∧ Chn pc oth N K (j :: r)
/-- the last one's number, else e -/
def lastM : Int → List Nat → Int
  | e, [] => e
  | _, k :: r => lastM ((k : Int) + 1) r
theorem lastM_more (e : Int) (Q : List Nat) (k : Nat) : lastM e (Q ++ [k]) = (k : Int) + 1 := by
  induction Q generalizing e with
  | nil => rfl
  | cons a r ih => exact ih _
theorem lastM_pos (e : Int) (k : Nat) (r : List Nat) : ∃ j ∈ k :: r, lastM e (k :: r) = (j : Int) + 1 := by
  induction r generalizing e k with
  | nil => exact ⟨k, List.mem_cons_self, rfl⟩
  | cons a r ih =>
    obtain ⟨j, hj, h⟩ := ih ((k : Int) + 1) a
    exact ⟨j, List.mem_cons_of_mem _ hj, h⟩
section
variable {pc oth N K pc' oth' N' K' : Nat → Int}
theorem chn_same {Q : List Nat} (h : Chn pc oth N K Q) (hN : ∀ j ∈ Q, N' j = N j) (hs : ∀ j ∈ Q.tail, pc' j = pc j ∧ oth' j = oth j ∧ K' j = K j) : Chn pc' oth' N' K' Q := by
  induction Q with
  | nil => trivial
  | cons i r ih =>
    cases r with
    | nil => exact (hN i List.mem_cons_self).trans h
    | cons j r =>
      obtain ⟨a, b, c⟩ := hs j List.mem_cons_self
      refine ⟨?_, ih h.2 (fun x hx => hN x (List.mem_cons_of_mem _ hx)) fun x hx => hs x (List.mem_cons_of_mem _ hx)⟩
      have h1 := h.1
      unfold Lnk at h1 ⊢
      rw [a, b, c, hN i List.mem_cons_self]
      exact h1
/-- one who has swapped sets its locked -/
theorem chn_lkd {Q : List Nat} (h : Chn pc oth N K Q) (hn : Q.Nodup) {k : Nat} (hk : k ∈ Q.tail) (hp : pc k = 2) : Chn (upd pc k 3) oth N (upd K k 1) Q := by
  induction Q with
  | nil => cases hk
  | cons i r ih =>
    cases r with
    | nil => cases hk
    | cons j r =>
      have hk : k ∈ j :: r := hk
      by_cases e : j = k
      · subst e
        have hnr : j ∉ r := (List.nodup_cons.1 (List.nodup_cons.1 hn).2).1
        refine ⟨?_, chn_same h.2 (fun _ _ => rfl) fun x hx => ?_⟩
        · rcases h.1 with a | a | a
          · exact .inr (.inl ⟨upd_same _ _ _, a.2.1, upd_same _ _ _, a.2.2⟩)
          · omega
          · omega
        · have hx : x ∈ r := hx
          have e2 : x ≠ j := fun q => hnr (q ▸ hx)
          exact ⟨upd_other _ _ e2, rfl, upd_other _ _ e2⟩
      · have hk2 : k ∈ r := by rcases List.mem_cons.1 hk with q | q; exact absurd q.symm e; exact q
        refine ⟨?_, ih h.2 (List.nodup_cons.1 hn).2 hk2⟩
        have h1 := h.1
        unfold Lnk at h1 ⊢
        rw [upd_other _ _ e, upd_other _ _ e]
        exact h1
/-- who is ahead of one who hasn't stored its number yet -/
theorem chn_ahead {Q : List Nat} (h : Chn pc oth N K Q) (hn : Q.Nodup) {k : Nat} (hk : k ∈ Q.tail) (hp : pc k = 2 ∨ pc k = 3) : ∃ i ∈ Q, i ≠ k ∧ oth k = (i : Int) + 1 := by
  induction Q with
  | nil => cases hk
  | cons i r ih =>
    cases r with
    | nil => cases hk
    | cons j r =>
      have hk : k ∈ j :: r := hk
      by_cases e : j = k
      · subst e
        refine ⟨i, List.mem_cons_self, fun q => (List.nodup_cons.1 hn).1 (q ▸ hk), ?_⟩
        rcases h.1 with a | a | a
        · exact a.2.1
        · exact a.2.1
        · omega
      · have hk2 : k ∈ r := by rcases List.mem_cons.1 hk with q | q; exact absurd q.symm e; exact q
        obtain ⟨i2, a, b, c⟩ := ih h.2 (List.nodup_cons.1 hn).2 hk2
        exact ⟨i2, List.mem_cons_of_mem _ a, b, c⟩
/-- it stores its number into the next of the one ahead -/
theorem chn_nxt {Q : List Nat} (h : Chn pc oth N K Q) (hn : Q.Nodup) {k i : Nat} (hk : k ∈ Q.tail) (hp : pc k = 3) (hi : oth k = (i : Int) + 1) : Chn (upd pc k 4) oth (upd N i ((k : Int) + 1)) K Q := by
  induction Q with
  | nil => cases hk
  | cons i0 r ih =>
    cases r with
    | nil => cases hk
    | cons j r =>
      have hk : k ∈ j :: r := hk
      have hi0 : i0 ∉ j :: r := (List.nodup_cons.1 hn).1
      by_cases e : j = k
      · subst e
        have hnr : j ∉ r := (List.nodup_cons.1 (List.nodup_cons.1 hn).2).1
        have e0 : i = i0 ∧ K j = 1 := by
          rcases h.1 with a | a | a
          · omega
          · have := a.2.1; exact ⟨by omega, a.2.2.1⟩
          · omega
        obtain ⟨rfl, eK⟩ := e0
        refine ⟨.inr (.inr ⟨upd_same _ _ _, eK, upd_same _ _ _⟩), chn_same h.2 (fun x hx => upd_other _ _ fun q => hi0 (q ▸ hx)) fun x hx => ?_⟩
        have hx : x ∈ r := hx
        exact ⟨upd_other _ _ fun q => hnr (q ▸ hx), rfl, rfl⟩
      · have hk2 : k ∈ r := by rcases List.mem_cons.1 hk with q | q; exact absurd q.symm e; exact q
        obtain ⟨i2, a, b, c⟩ := chn_ahead h.2 (List.nodup_cons.1 hn).2 (k := k) hk2 (.inr hp)
        have e2 : i2 = i := by omega
        subst e2
        refine ⟨?_, ih h.2 (List.nodup_cons.1 hn).2 hk2⟩
        have h1 := h.1
        unfold Lnk at h1 ⊢
        rw [upd_other _ _ e, upd_other _ _ fun q => hi0 (by rw [q]; exact a)]
        exact h1
/-- one comes behind the last one -/
theorem chn_more {Q : List Nat} (h : Chn pc oth N K Q) (h0 : Q ≠ []) {k : Nat} (hk : k ∉ Q) (hp : pc k = 2) (ho : oth k = lastM 0 Q) (hN : N k = 0) : Chn pc oth N K (Q ++ [k]) := by
  have key : ∀ (Q : List Nat) (e : Int), Chn pc oth N K Q → Q ≠ [] → oth k = lastM e Q → Chn pc oth N K (Q ++ [k]) := by
    intro Q
    induction Q with
    | nil => intro e _ h0; exact absurd rfl h0
    | cons i r ih =>
      intro e h _ ho
      cases r with
      | nil => exact ⟨.inl ⟨hp, ho, h⟩, hN⟩
      | cons j r => exact ⟨h.1, ih ((i : Int) + 1) h.2 (by simp) ho⟩
  exact key Q 0 h h0 ho
theorem chn_rest {k : Nat} {Q : List Nat} (h : Chn pc oth N K (k :: Q)) : Chn pc oth N K Q := by
  cases Q with
  | nil => trivial
  | cons j r => exact h.2
/-- of one who is behind another one -/
theorem chn_at {Q : List Nat} (h : Chn pc oth N K Q) {k : Nat} (hk : k ∈ Q.tail) : pc k = 2 ∨ pc k = 3 ∨ (pc k = 4 ∧ K k = 1) := by
  induction Q with
  | nil => cases hk
  | cons i r ih =>
    cases r with
    | nil => cases hk
    | cons j r =>
      have hk : k ∈ j :: r := hk
      by_cases e : j = k
      · subst e
        rcases h.1 with a | a | a
        · exact .inl a.1
        · exact .inr (.inl a.1)
        · exact .inr (.inr ⟨a.1, a.2.1⟩)
      · have hk2 : k ∈ r := by rcases List.mem_cons.1 hk with q | q; exact absurd q.symm e; exact q
        exact ih h.2 hk2
end

/-! ### all of it -/
structure Cor (n : Nat) (st pc oth : Nat → Int) (T : Int) (N K : Nat → Int) (g : Option Nat) (W : List Nat) : Prop where
  nodup : (g.toList ++ W).Nodup
  lt : ∀ k ∈ g.toList ++ W, k < n
  tl : T = lastM 0 (g.toList ++ W)
  prg : ∀ j, 0 ≤ pc j ∧ pc j ≤ 4
  inq : ∀ j, j < n → st j = 1 → (2 ≤ pc j ↔ j ∈ g.toList ++ W)
  pcI : ∀ j, j < n → st j ≠ 1 → st j ≠ 3 → pc j = 0
  pc3 : ∀ j, j < n → st j = 3 → pc j ≤ 3
  stg : ∀ k, g = some k → st k = 2 ∨ st k = 3 ∨ st k = 4
  stw : ∀ k ∈ W, st k = 1
  sto : ∀ k, k < n → k ∉ g.toList ++ W → st k = 0 ∨ st k = 1
  ch : Chn pc oth N K (g.toList ++ W)
  out : ∀ j, j < n → st j = 1 → pc j = 1 → N j = 0
  hd : g = none → ∀ k r, W = k :: r → pc k = 4 ∧ K k = 0
  un2 : ∀ k, g = some k → st k = 3 → pc k = 2 → W ≠ []
  un3 : ∀ k, g = some k → st k = 3 → pc k = 3 → ∃ j r, W = j :: r ∧ oth k = (j : Int) + 1 ∧ pc j = 4
namespace Cor
variable {n : Nat} {st pc oth : Nat → Int} {T : Int} {N K : Nat → Int} {g : Option Nat} {W : List Nat}
theorem held (h : Cor n st pc oth T N K g W) {k : Nat} (hk : k < n) (hs : st k = 2 ∨ st k = 3 ∨ st k = 4) : g = some k := by
  by_cases hm : k ∈ g.toList ++ W
  · rcases List.mem_append.1 hm with hm | hm
    · simpa using hm
    · have := h.stw k hm; omega
  · have := h.sto k hk hm; omega
theorem idle (h : Cor n st pc oth T N K g W) {k : Nat} (hs : st k = 0) : k ∉ g.toList ++ W := fun hm => by
  rcases List.mem_append.1 hm with hm | hm
  · have := h.stg k (by simpa using hm); omega
  · have := h.stw k hm; omega
theorem away (h : Cor n st pc oth T N K g W) {k : Nat} (hk : k < n) (hs : st k = 1) (hp : pc k < 2) : k ∉ g.toList ++ W := fun hm => by
  have := (h.inq k hk hs).2 hm; omega
theorem waits (h : Cor n st pc oth T N K g W) {k : Nat} (hk : k < n) (hs : st k = 1) (hp : 2 ≤ pc k) : k ∈ W := by
  rcases List.mem_append.1 ((h.inq k hk hs).1 hp) with hm | hm
  · have := h.stg k (by simpa using hm); omega
  · exact hm
theorem notW {k : Nat} (h : Cor n st pc oth T N K (some k) W) : k ∉ W := (List.nodup_cons.1 h.nodup).1
/-- behind another one -/
theorem behind (h : Cor n st pc oth T N K g W) {k : Nat} (hm : k ∈ W) (hne : g = none → ∀ r, W ≠ k :: r) : k ∈ (g.toList ++ W).tail := by
  cases g with
  | some a => exact hm
  | none =>
    cases W with
    | nil => cases hm
    | cons j r =>
      rcases List.mem_cons.1 hm with rfl | hm
      · exact absurd rfl (hne rfl r)
      · exact hm
/-- what one does becomes something that its place allows -/
theorem lock (h : Cor n st pc oth T N K g W) {k : Nat} (hk : k < n) (s0 : st k = 0) : Cor n (upd st k 1) pc oth T N K g W := by
  have hn := h.idle s0
  have p0 := h.pcI k hk (by omega) (by omega)
  refine ⟨h.nodup, h.lt, h.tl, h.prg, fun j hj hs => ?_, fun j hj h1 h3 => ?_, fun j hj hs => ?_, fun j hj => ?_, fun j hj => ?_, fun j hj hnj => ?_, h.ch, fun j hj hs hp => ?_, h.hd, fun j hj hs => ?_, fun j hj hs => ?_⟩
  · by_cases e : j = k
    · subst e; exact ⟨fun q => by omega, fun q => absurd q hn⟩
    · rw [upd_other _ _ e] at hs; exact h.inq j hj hs
  · by_cases e : j = k
    · subst e; exact p0
    · rw [upd_other _ _ e] at h1 h3; exact h.pcI j hj h1 h3
  · by_cases e : j = k
    · subst e; omega
    · rw [upd_other _ _ e] at hs; exact h.pc3 j hj hs
  · rw [upd_other _ _ fun e => hn (by subst e; exact List.mem_append_left _ (by rw [hj]; simp))]; exact h.stg j hj
  · rw [upd_other _ _ fun e => hn (by subst e; exact List.mem_append_right _ hj)]; exact h.stw j hj
  · by_cases e : j = k
    · subst e; rw [upd_same]; exact .inr rfl
    · rw [upd_other _ _ e]; exact h.sto j hj hnj
  · by_cases e : j = k
    · subst e; omega
    · rw [upd_other _ _ e] at hs; exact h.out j hj hs hp
  · have e : j ≠ k := fun e => hn (by subst e; exact List.mem_append_left _ (by rw [hj]; simp))
    rw [upd_other _ _ e] at hs; exact h.un2 j hj hs
  · have e : j ≠ k := fun e => hn (by subst e; exact List.mem_append_left _ (by rw [hj]; simp))
    rw [upd_other _ _ e] at hs; exact h.un3 j hj hs
/-- who holds begins something, or is done with it -/
theorem turn (h : Cor n st pc oth T N K g W) {k : Nat} (hk : k < n) (s2 : st k = 2 ∨ st k = 4) {x : Int} (hx : x = 2 ∨ x = 3 ∨ x = 4) : Cor n (upd st k x) pc oth T N K g W := by
  have hg := h.held hk (by omega)
  subst hg
  have p0 := h.pcI k hk (by omega) (by omega)
  have hnW := h.notW
  refine ⟨h.nodup, h.lt, h.tl, h.prg, fun j hj hs => ?_, fun j hj h1 h3 => ?_, fun j hj hs => ?_, fun j hj => ?_, fun j hj => ?_, fun j hj hnj => ?_, h.ch, fun j hj hs hp => ?_, h.hd, fun j hj hs hp => ?_, fun j hj hs hp => ?_⟩
  · by_cases e : j = k
    · subst e; rw [upd_same] at hs; omega
    · rw [upd_other _ _ e] at hs; exact h.inq j hj hs
  · by_cases e : j = k
    · subst e; exact p0
    · rw [upd_other _ _ e] at h1 h3; exact h.pcI j hj h1 h3
  · by_cases e : j = k
    · subst e; omega
    · rw [upd_other _ _ e] at hs; exact h.pc3 j hj hs
  · obtain rfl : k = j := Option.some.inj hj
    rw [upd_same]; exact hx
  · rw [upd_other _ _ fun e => hnW (by subst e; exact hj)]; exact h.stw j hj
  · rw [upd_other _ _ fun e => hnj (by subst e; simp)]; exact h.sto j hj hnj
  · by_cases e : j = k
    · subst e; omega
    · rw [upd_other _ _ e] at hs; exact h.out j hj hs hp
  · obtain rfl : k = j := Option.some.inj hj
    omega
  · obtain rfl : k = j := Option.some.inj hj
    omega
/-- (1) it stores 0 into its next -/
theorem nxt0 (h : Cor n st pc oth T N K g W) {k : Nat} (hk : k < n) (s1 : st k = 1) (p0 : pc k = 0) : Cor n st (upd pc k 1) oth T (upd N k 0) K g W := by
  have hn := h.away hk s1 (by omega)
  have ne : ∀ j ∈ g.toList ++ W, j ≠ k := fun j hj e => hn (by subst e; exact hj)
  refine ⟨h.nodup, h.lt, h.tl, fun j => ?_, fun j hj hs => ?_, fun j hj h1 h3 => ?_, fun j hj hs => ?_, h.stg, h.stw, h.sto, ?_, fun j hj hs hp => ?_, fun hg a r hW => ?_, fun j hj hs hp => ?_, fun j hj hs hp => ?_⟩
  · by_cases e : j = k
    · subst e; rw [upd_same]; omega
    · rw [upd_other _ _ e]; exact h.prg j
  · by_cases e : j = k
    · subst e; rw [upd_same]; exact ⟨fun q => by omega, fun q => absurd q hn⟩
    · rw [upd_other _ _ e]; exact h.inq j hj hs
  · rw [upd_other _ _ fun e => h1 (by rw [e]; exact s1)]; exact h.pcI j hj h1 h3
  · rw [upd_other _ _ fun e => by subst e; omega]; exact h.pc3 j hj hs
  · exact chn_same h.ch (fun j hj => upd_other _ _ (ne j hj)) fun j hj => ⟨upd_other _ _ (ne j (List.mem_of_mem_tail hj)), rfl, rfl⟩
  · by_cases e : j = k
    · subst e; rw [upd_same]
    · rw [upd_other _ _ e] at hp ⊢; exact h.out j hj hs hp
  · have := h.hd hg a r hW
    rw [upd_other _ _ (ne a (List.mem_append_right _ (by rw [hW]; simp)))]; exact this
  · rw [upd_other _ _ fun e => by subst e; omega] at hp; exact h.un2 j hj hs hp
  · rw [upd_other _ _ fun e => by subst e; omega] at hp
    obtain ⟨a, r, q1, q2, q3⟩ := h.un3 j hj hs hp
    exact ⟨a, r, q1, q2, by rw [upd_other _ _ (ne a (List.mem_append_right _ (by rw [q1]; simp)))]; exact q3⟩
/-- (2) it swaps, and nobody is ahead -/
theorem enq0 (h : Cor n st pc oth T N K none []) {k : Nat} (hk : k < n) (s1 : st k = 1) (p1 : pc k = 1) (x : Int) : Cor n (upd st k 2) (upd pc k 0) (upd oth k x) ((k : Int) + 1) N K (some k) [] := by
  have n0 := h.out k hk s1 p1
  refine ⟨by simp, fun j hj => ?_, rfl, fun j => ?_, fun j hj hs => ?_, fun j hj h1 h3 => ?_, fun j hj hs => ?_, fun j hj => ?_, fun j hj => (by cases hj), fun j hj hnj => ?_, n0, fun j hj hs hp => ?_, fun hg => (by cases hg), fun j hj hs hp => ?_, fun j hj hs hp => ?_⟩
  · obtain rfl : j = k := by simpa using hj
    exact hk
  · by_cases e : j = k
    · subst e; rw [upd_same]; omega
    · rw [upd_other _ _ e]; exact h.prg j
  · by_cases e : j = k
    · subst e; rw [upd_same] at hs; omega
    · rw [upd_other _ _ e] at hs ⊢
      have := h.inq j hj hs
      simp at this ⊢
      exact ⟨fun q => by omega, fun q => absurd q e⟩
  · by_cases e : j = k
    · subst e; rw [upd_same]
    · rw [upd_other _ _ e] at h1 h3 ⊢; exact h.pcI j hj h1 h3
  · by_cases e : j = k
    · subst e; rw [upd_same]; omega
    · rw [upd_other _ _ e] at hs ⊢; exact h.pc3 j hj hs
  · obtain rfl : k = j := Option.some.inj hj
    rw [upd_same]; exact .inl rfl
  · rw [upd_other _ _ fun e => hnj (by subst e; simp)]; exact h.sto j hj (by simp)
  · by_cases e : j = k
    · subst e; rw [upd_same] at hs; omega
    · rw [upd_other _ _ e] at hs hp; exact h.out j hj hs hp
  · obtain rfl : k = j := Option.some.inj hj
    rw [upd_same] at hs; omega
  · obtain rfl : k = j := Option.some.inj hj
    rw [upd_same] at hs; omega
/-- (2) it swaps, behind another one -/
theorem enq (h : Cor n st pc oth T N K g W) (h0 : g.toList ++ W ≠ []) {k : Nat} (hk : k < n) (s1 : st k = 1) (p1 : pc k = 1) : Cor n st (upd pc k 2) (upd oth k T) ((k : Int) + 1) N K g (W ++ [k]) := by
  have hn := h.away hk s1 (by omega)
  have ne : ∀ j ∈ g.toList ++ W, j ≠ k := fun j hj e => hn (by subst e; exact hj)
  have n0 := h.out k hk s1 p1
  have mem : ∀ j, j ∈ g.toList ++ (W ++ [k]) ↔ j ∈ g.toList ++ W ∨ j = k := fun j => by rw [← List.append_assoc, List.mem_append, List.mem_singleton]
  refine ⟨?_, fun j hj => ?_, by rw [← List.append_assoc, lastM_more], fun j => ?_, fun j hj hs => ?_, fun j hj h1 h3 => ?_, fun j hj hs => ?_, h.stg, fun j hj => ?_, fun j hj hnj => ?_, ?_, fun j hj hs hp => ?_, fun hg a r hW => ?_, fun j hj hs hp => by simp, fun j hj hs hp => ?_⟩
  · rw [← List.append_assoc, List.nodup_append]
    exact ⟨h.nodup, by simp, fun a h1 b h2 q => by rw [List.mem_singleton] at h2; subst q; subst h2; exact hn h1⟩
  · rcases (mem j).1 hj with hj | rfl
    · exact h.lt j hj
    · exact hk
  · by_cases e : j = k
    · subst e; rw [upd_same]; omega
    · rw [upd_other _ _ e]; exact h.prg j
  · rw [mem]
    by_cases e : j = k
    · subst e; rw [upd_same]; simp
    · rw [upd_other _ _ e, h.inq j hj hs]; simp [e]
  · rw [upd_other _ _ fun e => h1 (by rw [e]; exact s1)]; exact h.pcI j hj h1 h3
  · rw [upd_other _ _ fun e => by subst e; omega]; exact h.pc3 j hj hs
  · rcases List.mem_append.1 hj with hj | hj
    · exact h.stw j hj
    · obtain rfl : j = k := by simpa using hj
      exact s1
  · rw [mem, not_or] at hnj; exact h.sto j hj hnj.1
  · rw [← List.append_assoc]
    exact chn_more (chn_same h.ch (fun _ _ => rfl) fun j hj => ⟨upd_other _ _ (ne j (List.mem_of_mem_tail hj)), upd_other _ _ (ne j (List.mem_of_mem_tail hj)), rfl⟩) h0 hn (upd_same _ _ _) ((upd_same _ _ _).trans h.tl) n0
  · by_cases e : j = k
    · subst e; exact n0
    · rw [upd_other _ _ e] at hp; exact h.out j hj hs hp
  · subst hg
    cases W with
    | nil => exact absurd rfl h0
    | cons b r2 =>
      obtain rfl : b = a := (List.cons.inj hW).1
      rw [upd_other _ _ (ne b (by simp))]
      exact h.hd rfl b r2 rfl
  · rw [upd_other _ _ fun e => by subst e; omega] at hp
    obtain ⟨a, r, q1, q2, q3⟩ := h.un3 j hj hs hp
    refine ⟨a, r ++ [k], by rw [q1]; rfl, ?_, ?_⟩
    · rw [upd_other _ _ (ne j (List.mem_append_left _ (by rw [hj]; simp)))]; exact q2
    · rw [upd_other _ _ (ne a (List.mem_append_right _ (by rw [q1]; simp)))]; exact q3
/-- not the first one of a queue that is to be taken -/
theorem late (h : Cor n st pc oth T N K g W) {k : Nat} (hm : k ∈ W) (hp : pc k ≠ 4 ∨ K k ≠ 0) : k ∈ (g.toList ++ W).tail :=
  h.behind hm fun hg r hW => by
    have := h.hd hg k r hW
    rcases hp with q | q
    · exact q this.1
    · exact q this.2
/-- (3) it stores 1 into its locked -/
theorem lkd (h : Cor n st pc oth T N K g W) {k : Nat} (hk : k < n) (s1 : st k = 1) (p2 : pc k = 2) : Cor n st (upd pc k 3) oth T N (upd K k 1) g W := by
  have hm := h.waits hk s1 (by omega)
  have hb := h.late hm (.inl (by omega))
  refine ⟨h.nodup, h.lt, h.tl, fun j => ?_, fun j hj hs => ?_, fun j hj h1 h3 => ?_, fun j hj hs => ?_, h.stg, h.stw, h.sto, chn_lkd h.ch h.nodup hb p2, fun j hj hs hp => ?_, fun hg a r hW => ?_, fun j hj hs hp => ?_, fun j hj hs hp => ?_⟩
  · by_cases e : j = k
    · subst e; rw [upd_same]; omega
    · rw [upd_other _ _ e]; exact h.prg j
  · by_cases e : j = k
    · subst e; rw [upd_same]; exact ⟨fun _ => List.mem_append_right _ hm, fun _ => by omega⟩
    · rw [upd_other _ _ e]; exact h.inq j hj hs
  · rw [upd_other _ _ fun e => h1 (by rw [e]; exact s1)]; exact h.pcI j hj h1 h3
  · rw [upd_other _ _ fun e => by subst e; omega]; exact h.pc3 j hj hs
  · by_cases e : j = k
    · subst e; rw [upd_same] at hp; omega
    · rw [upd_other _ _ e] at hp; exact h.out j hj hs hp
  · have := h.hd hg a r hW
    have e : a ≠ k := fun e => by subst e; omega
    rw [upd_other _ _ e, upd_other _ _ e]; exact this
  · rw [upd_other _ _ fun e => by subst e; omega] at hp; exact h.un2 j hj hs hp
  · rw [upd_other _ _ fun e => by subst e; omega] at hp
    obtain ⟨a, r, q1, q2, q3⟩ := h.un3 j hj hs hp
    exact ⟨a, r, q1, q2, by rw [upd_other _ _ fun e => by subst e; omega]; exact q3⟩
/-- who is ahead of one who is to store its number -/
theorem ahead (h : Cor n st pc oth T N K g W) {k : Nat} (hk : k < n) (s1 : st k = 1) (p3 : pc k = 2 ∨ pc k = 3) : ∃ i, i < n ∧ oth k = (i : Int) + 1 := by
  have hm := h.waits hk s1 (by omega)
  obtain ⟨i, a, _, c⟩ := chn_ahead h.ch h.nodup (h.late hm (.inl (by omega))) p3
  exact ⟨i, h.lt i a, c⟩
/-- (4) it stores its number into the next of the one ahead -/
theorem nxt (h : Cor n st pc oth T N K g W) {k i : Nat} (hk : k < n) (s1 : st k = 1) (p3 : pc k = 3) (hi : oth k = (i : Int) + 1) : Cor n st (upd pc k 4) oth T (upd N i ((k : Int) + 1)) K g W := by
  have hm := h.waits hk s1 (by omega)
  have hb := h.late hm (.inl (by omega))
  obtain ⟨i2, ia, _, ic⟩ := chn_ahead h.ch h.nodup hb (.inr p3)
  obtain rfl : i2 = i := by omega
  refine ⟨h.nodup, h.lt, h.tl, fun j => ?_, fun j hj hs => ?_, fun j hj h1 h3 => ?_, fun j hj hs => ?_, h.stg, h.stw, h.sto, chn_nxt h.ch h.nodup hb p3 hi, fun j hj hs hp => ?_, fun hg a r hW => ?_, fun j hj hs hp => ?_, fun j hj hs hp => ?_⟩
  · by_cases e : j = k
    · subst e; rw [upd_same]; omega
    · rw [upd_other _ _ e]; exact h.prg j
  · by_cases e : j = k
    · subst e; rw [upd_same]; exact ⟨fun _ => List.mem_append_right _ hm, fun _ => by omega⟩
    · rw [upd_other _ _ e]; exact h.inq j hj hs
  · rw [upd_other _ _ fun e => h1 (by rw [e]; exact s1)]; exact h.pcI j hj h1 h3
  · rw [upd_other _ _ fun e => by subst e; omega]; exact h.pc3 j hj hs
  · by_cases e : j = k
    · subst e; rw [upd_same] at hp; omega
    · rw [upd_other _ _ e] at hp
      rw [upd_other _ _ fun q => h.away hj hs (by omega) (by rw [q]; exact ia)]
      exact h.out j hj hs hp
  · have := h.hd hg a r hW
    have e : a ≠ k := fun e => by subst e; omega
    rw [upd_other _ _ e]; exact this
  · rw [upd_other _ _ fun e => by subst e; omega] at hp; exact h.un2 j hj hs hp
  · rw [upd_other _ _ fun e => by subst e; omega] at hp
    obtain ⟨a, r, q1, q2, q3⟩ := h.un3 j hj hs hp
    exact ⟨a, r, q1, q2, by rw [upd_other _ _ fun e => by subst e; omega]; exact q3⟩
/-- (5) of one who looks: it is its turn, or its locked is set -/
theorem looks (h : Cor n st pc oth T N K g W) {k : Nat} (hk : k < n) (s1 : st k = 1) (p4 : pc k = 4) : (g = none ∧ ∃ r, W = k :: r ∧ K k = 0) ∨ K k = 1 := by
  have hm := h.waits hk s1 (by omega)
  by_cases q : g = none ∧ ∃ r, W = k :: r
  · obtain ⟨hg, r, hW⟩ := q
    exact .inl ⟨hg, r, hW, (h.hd hg k r hW).2⟩
  · have hb := h.behind hm fun hg r hW => q ⟨hg, r, hW⟩
    rcases chn_at h.ch hb with a | a | a
    · omega
    · omega
    · exact .inr a.2
theorem grant {k : Nat} (h : Cor n st pc oth T N K none (k :: W)) : Cor n (upd st k 2) (upd pc k 0) oth T N K (some k) W := by
  have hn : k ∉ W := (List.nodup_cons.1 h.nodup).1
  have hk : k < n := h.lt k (by simp)
  refine ⟨h.nodup, h.lt, h.tl, fun j => ?_, fun j hj hs => ?_, fun j hj h1 h3 => ?_, fun j hj hs => ?_, fun j hj => ?_, fun j hj => ?_, fun j hj hnj => ?_, ?_, fun j hj hs hp => ?_, fun hg => (by cases hg), fun j hj hs hp => ?_, fun j hj hs hp => ?_⟩
  · by_cases e : j = k
    · subst e; rw [upd_same]; omega
    · rw [upd_other _ _ e]; exact h.prg j
  · by_cases e : j = k
    · subst e; rw [upd_same] at hs; omega
    · rw [upd_other _ _ e] at hs ⊢; exact h.inq j hj hs
  · by_cases e : j = k
    · subst e; rw [upd_same]
    · rw [upd_other _ _ e] at h1 h3 ⊢; exact h.pcI j hj h1 h3
  · by_cases e : j = k
    · subst e; rw [upd_same]; omega
    · rw [upd_other _ _ e] at hs ⊢; exact h.pc3 j hj hs
  · obtain rfl : k = j := Option.some.inj hj
    rw [upd_same]; exact .inl rfl
  · rw [upd_other _ _ fun e => hn (by subst e; exact hj)]; exact h.stw j (List.mem_cons_of_mem _ hj)
  · rw [upd_other _ _ fun e => hnj (by subst e; simp)]; exact h.sto j hj hnj
  · exact chn_same h.ch (fun _ _ => rfl) fun j hj => ⟨upd_other _ _ fun e => hn (by subst e; exact hj), rfl, rfl⟩
  · by_cases e : j = k
    · subst e; rw [upd_same] at hs; omega
    · rw [upd_other _ _ e] at hs hp; exact h.out j hj hs hp
  · obtain rfl : k = j := Option.some.inj hj
    rw [upd_same] at hs; omega
  · obtain rfl : k = j := Option.some.inj hj
    rw [upd_same] at hs; omega
/-- what stands in the next of one who unlocks -/
theorem nextOf {k : Nat} (h : Cor n st pc oth T N K (some k) W) : (W = [] ∧ N k = 0) ∨ ∃ j r, W = j :: r ∧ ((N k = 0 ∧ (pc j = 2 ∨ pc j = 3)) ∨ (N k = (j : Int) + 1 ∧ pc j = 4 ∧ K j = 1)) := by
  cases W with
  | nil => exact .inl ⟨rfl, h.ch⟩
  | cons j r =>
    refine .inr ⟨j, r, rfl, ?_⟩
    rcases h.ch.1 with a | a | a
    · exact .inl ⟨a.2.2, .inl a.1⟩
    · exact .inl ⟨a.2.2.2, .inr a.1⟩
    · exact .inr ⟨a.2.2, a.1, a.2.1⟩
/-- one who unlocks comes on -/
theorem unl {k : Nat} (h : Cor n st pc oth T N K (some k) W) (s3 : st k = 3) {p x : Int} (hp0 : 0 ≤ p ∧ p ≤ 3) (h2 : p = 2 → W ≠ []) (h3 : p = 3 → ∃ j r, W = j :: r ∧ x = (j : Int) + 1 ∧ pc j = 4) : Cor n st (upd pc k p) (upd oth k x) T N K (some k) W := by
  have hn := h.notW
  have hne : ∀ j ∈ W, j ≠ k := fun j hj e => hn (by subst e; exact hj)
  refine ⟨h.nodup, h.lt, h.tl, fun j => ?_, fun j hj hs => ?_, fun j hj h1 h3 => ?_, fun j hj hs => ?_, h.stg, h.stw, h.sto, ?_, fun j hj hs hp => ?_, fun hg => (by cases hg), fun j hj hs hp => ?_, fun j hj hs hp => ?_⟩
  · by_cases e : j = k
    · subst e; rw [upd_same]; omega
    · rw [upd_other _ _ e]; exact h.prg j
  · rw [upd_other _ _ fun e => by subst e; omega]; exact h.inq j hj hs
  · rw [upd_other _ _ fun e => by subst e; omega]; exact h.pcI j hj h1 h3
  · by_cases e : j = k
    · subst e; rw [upd_same]; omega
    · rw [upd_other _ _ e]; exact h.pc3 j hj hs
  · exact chn_same h.ch (fun _ _ => rfl) fun j hj => ⟨upd_other _ _ (hne j hj), upd_other _ _ (hne j hj), rfl⟩
  · rw [upd_other _ _ fun e => by subst e; omega] at hp; exact h.out j hj hs hp
  · obtain rfl : k = j := Option.some.inj hj
    rw [upd_same] at hp; exact h2 hp
  · obtain rfl : k = j := Option.some.inj hj
    rw [upd_same] at hp
    obtain ⟨a, r, q1, q2, q3⟩ := h3 hp
    exact ⟨a, r, q1, by rw [upd_same]; exact q2, by rw [upd_other _ _ (hne a (by rw [q1]; simp))]; exact q3⟩
/-- the lock is given back, and nobody is behind -/
theorem freeE {k : Nat} (h : Cor n st pc oth T N K (some k) []) : Cor n (upd st k 0) (upd pc k 0) oth 0 N K none [] := by
  have hk : k < n := h.lt k (by simp)
  have hg := h.stg k rfl
  refine ⟨by simp, fun j hj => (by cases hj), rfl, fun j => ?_, fun j hj hs => ?_, fun j hj h1 h3 => ?_, fun j hj hs => ?_, fun j hj => (by cases hj), fun j hj => (by cases hj), fun j hj hnj => ?_, trivial, fun j hj hs hp => ?_, fun _ a r hW => (by cases hW), fun j hj => (by cases hj), fun j hj => (by cases hj)⟩
  · by_cases e : j = k
    · subst e; rw [upd_same]; omega
    · rw [upd_other _ _ e]; exact h.prg j
  · by_cases e : j = k
    · subst e; rw [upd_same] at hs; omega
    · rw [upd_other _ _ e] at hs ⊢
      have := h.inq j hj hs
      simp [e] at this ⊢
      exact this
  · by_cases e : j = k
    · subst e; rw [upd_same]
    · rw [upd_other _ _ e] at h1 h3 ⊢; exact h.pcI j hj h1 h3
  · by_cases e : j = k
    · subst e; rw [upd_same]; omega
    · rw [upd_other _ _ e] at hs ⊢; exact h.pc3 j hj hs
  · by_cases e : j = k
    · subst e; rw [upd_same]; exact .inl rfl
    · rw [upd_other _ _ e]; exact h.sto j hj (by simpa using e)
  · by_cases e : j = k
    · subst e; rw [upd_same] at hs; omega
    · rw [upd_other _ _ e] at hs hp; exact h.out j hj hs hp
/-- the lock is handed over -/
theorem freeW {k j : Nat} {r : List Nat} (h : Cor n st pc oth T N K (some k) (j :: r)) (p4 : pc j = 4) : Cor n (upd st k 0) (upd pc k 0) oth T N (upd K j 0) none (j :: r) := by
  have hk : k < n := h.lt k (by simp)
  have hn := h.notW
  have hne : ∀ i ∈ j :: r, i ≠ k := fun i hi e => hn (by subst e; exact hi)
  have hjr : j ∉ r := (List.nodup_cons.1 (List.nodup_cons.1 h.nodup).2).1
  have hg := h.stg k rfl
  refine ⟨(List.nodup_cons.1 h.nodup).2, fun i hi => h.lt i (List.mem_cons_of_mem _ hi), h.tl, fun i => ?_, fun i hi hs => ?_, fun i hi h1 h3 => ?_, fun i hi hs => ?_, fun i hi => (by cases hi), fun i hi => ?_, fun i hi hni => ?_, ?_, fun i hi hs hp => ?_, fun _ a r2 hW => ?_, fun i hi => (by cases hi), fun i hi => (by cases hi)⟩
  · by_cases e : i = k
    · subst e; rw [upd_same]; omega
    · rw [upd_other _ _ e]; exact h.prg i
  · by_cases e : i = k
    · subst e; rw [upd_same] at hs; omega
    · rw [upd_other _ _ e] at hs ⊢
      rw [h.inq i hi hs]
      show i ∈ k :: j :: r ↔ i ∈ j :: r
      rw [List.mem_cons]
      exact ⟨fun q => q.resolve_left e, .inr⟩
  · by_cases e : i = k
    · subst e; rw [upd_same]
    · rw [upd_other _ _ e] at h1 h3 ⊢; exact h.pcI i hi h1 h3
  · by_cases e : i = k
    · subst e; rw [upd_same]; omega
    · rw [upd_other _ _ e] at hs ⊢; exact h.pc3 i hi hs
  · rw [upd_other _ _ (hne i hi)]; exact h.stw i hi
  · by_cases e : i = k
    · subst e; rw [upd_same]; exact .inl rfl
    · rw [upd_other _ _ e]
      refine h.sto i hi fun q => ?_
      have q : i ∈ k :: j :: r := q
      rcases List.mem_cons.1 q with q | q
      · exact e q
      · exact hni q
  · refine chn_same (chn_rest h.ch) (fun _ _ => rfl) fun i hi => ?_
    have hi : i ∈ r := hi
    exact ⟨upd_other _ _ (hne i (List.mem_cons_of_mem _ hi)), rfl, upd_other _ _ fun e => hjr (by subst e; exact hi)⟩
  · by_cases e : i = k
    · subst e; rw [upd_same] at hs; omega
    · rw [upd_other _ _ e] at hs hp; exact h.out i hi hs hp
  · obtain rfl : j = a := (List.cons.inj hW).1
    rw [upd_same, upd_other _ _ (hne j (by simp))]
    exact ⟨p4, rfl⟩
end Cor
end Go.Proofs.YtkmikkjjnbikdaaGreat.Km
namespace Go.Proofs.YtkmikkjjnbikdaaGreat.Km
set_option linter.unusedVariables false
set_option maxRecDepth 100000

/-! ### an access -/
theorem do_load {ps : PSta} {k i : Nat} {a : Int} (hk : k < ps.ac.length) (ha : a = ((i : Nat) : Int)) (hi : i < ps.ws.length) :
    tellS ps k 1 a = ps.ws.getD i 0 ∧ (doS ps k 1 a 0 0).ws = ps.ws ∧ (doS ps k 1 a 0 0).ac.length = ps.ac.length ∧ (doS ps k 1 a 0 0).D.length = ps.D.length + 1 := by
  subst ha
  have ho : okS ps k 1 (i : Int) = true := by simp [okS, okT]; omega
  refine ⟨?_, ?_, ?_, ?_⟩
  · unfold tellS; rw [ho]; simp [tellI, loadI]
  · unfold doS; rw [ho]; simp [doL]
  · unfold doS; rw [ho]; simp [touchS, bump_len]
  · unfold doS; rw [ho]; simp [touchS]
theorem do_store {ps : PSta} {k i : Nat} {a v : Int} (hk : k < ps.ac.length) (ha : a = ((i : Nat) : Int)) (hi : i < ps.ws.length) :
    (doS ps k 2 a 0 v).ws = ps.ws.set i v ∧ (doS ps k 2 a 0 v).ac.length = ps.ac.length ∧ (doS ps k 2 a 0 v).D.length = ps.D.length + 1 := by
  subst ha
  have ho : okS ps k 2 (i : Int) = true := by simp [okS, okT]; omega
  refine ⟨?_, ?_, ?_⟩
  · unfold doS; rw [ho]; simp [doL, storeL]
  · unfold doS; rw [ho]; simp [touchS, bump_len]
  · unfold doS; rw [ho]; simp [touchS]
theorem do_swap {ps : PSta} {k i : Nat} {a v : Int} (hk : k < ps.ac.length) (ha : a = ((i : Nat) : Int)) (hi : i < ps.ws.length) :
    tellS ps k 3 a = ps.ws.getD i 0 ∧ (doS ps k 3 a 0 v).ws = ps.ws.set i v ∧ (doS ps k 3 a 0 v).ac.length = ps.ac.length ∧ (doS ps k 3 a 0 v).D.length = ps.D.length + 1 := by
  subst ha
  have ho : okS ps k 3 (i : Int) = true := by simp [okS, okT]; omega
  refine ⟨?_, ?_, ?_, ?_⟩
  · unfold tellS; rw [ho]; simp [tellI, loadI]
  · unfold doS; rw [ho]; simp [doL, storeL]
  · unfold doS; rw [ho]; simp [touchS, bump_len]
  · unfold doS; rw [ho]; simp [touchS]
theorem do_cas {ps : PSta} {k i : Nat} {a old v : Int} (hk : k < ps.ac.length) (ha : a = ((i : Nat) : Int)) (hi : i < ps.ws.length) :
    (casT ps k a old = true ↔ ps.ws.getD i 0 = old) ∧ (doS ps k 4 a old v).ws = (if ps.ws.getD i 0 = old then ps.ws.set i v else ps.ws) ∧ (doS ps k 4 a old v).ac.length = ps.ac.length ∧ (doS ps k 4 a old v).D.length = ps.D.length + 1 := by
  subst ha
  have ho : okS ps k 4 (i : Int) = true := by simp [okS, okT]; omega
  have hb : casB ps.ws (i : Int) old = decide (ps.ws.getD i 0 = old) := by unfold casB; rw [has_at hi, load_at]; simp
  refine ⟨?_, ?_, ?_, ?_⟩
  · unfold casT; rw [hb, okT_at hk hi]; simp
  · unfold doS; rw [ho]
    show casL ps.ws (i : Int) old v = _
    unfold casL
    rw [hb]
    by_cases e : ps.ws.getD i 0 = old
    · rw [decide_eq_true e, if_pos rfl, if_pos e]; simp [storeL]
    · rw [decide_eq_false e, if_neg (by decide), if_neg e]
  · unfold doS; rw [ho]; simp [touchS, bump_len]
  · unfold doS; rw [ho]; simp [touchS]

theorem fin_none {s : SS} {k : Nat} {ev : Int} (h : behindI (s.st k) ev = none) : s.fin k ev = s := by
  unfold SS.fin endO
  split
  · rename_i y hy
    split at hy
    · rw [Int.toNat_natCast, h] at hy; cases hy
    · cases hy
  · rfl
theorem fin_some {s : SS} {k : Nat} {ev y : Int} (hk : k < s.n) (h : behindI (s.st k) ev = some y) : s.fin k ev = s.set k y 0 := by
  have e : endO s k ev = some y := by unfold endO; rw [if_pos (by omega), Int.toNat_natCast, h]
  unfold SS.fin
  rw [e, Int.toNat_natCast]
theorem fin_no (s : SS) (t : Nat) : s.fin t Dd.no.ev = s := fin_none (by
  unfold behindI
  rw [if_neg (fun q => absurd q.2 (by decide)), if_neg (fun q => q.2.elim (fun q => absurd q (by decide)) fun q => absurd q (by decide)), if_neg (fun q => absurd q.2 (by decide)), if_neg (fun q => q.2.elim (fun q => absurd q (by decide)) fun q => absurd q (by decide))])

/-! ### the words -/
def wT (ps : PSta) : Int := ps.ws.getD 0 0
def wN (ps : PSta) (i : Nat) : Int := ps.ws.getD (1 + 2 * i) 0
def wK (ps : PSta) (i : Nat) : Int := ps.ws.getD (2 + 2 * i) 0
theorem getD_set_same {l : List Int} {i : Nat} (v : Int) (h : i < l.length) : (l.set i v).getD i 0 = v := by simp [h]
theorem getD_set_other {l : List Int} {i j : Nat} (v : Int) (h : i ≠ j) : (l.set i v).getD j 0 = l.getD j 0 := by
  rw [List.getD_eq_getElem?_getD, List.getElem?_set, if_neg h, ← List.getD_eq_getElem?_getD]
theorem ws_same {ps ps' : PSta} (h : ps'.ws = ps.ws) : wT ps' = wT ps ∧ wN ps' = wN ps ∧ wK ps' = wK ps := by
  unfold wT
  refine ⟨by rw [h], funext fun i => ?_, funext fun i => ?_⟩
  · unfold wN; rw [h]
  · unfold wK; rw [h]
theorem ws_tail {ps ps' : PSta} {v : Int} (hl : 0 < ps.ws.length) (h : ps'.ws = ps.ws.set 0 v) : wT ps' = v ∧ wN ps' = wN ps ∧ wK ps' = wK ps := by
  unfold wT
  refine ⟨by rw [h]; exact getD_set_same v hl, funext fun i => ?_, funext fun i => ?_⟩
  · unfold wN; rw [h, getD_set_other _ (by omega)]
  · unfold wK; rw [h, getD_set_other _ (by omega)]
theorem ws_next {ps ps' : PSta} {v : Int} {i n : Nat} (hn : ps.ws.length = 2 * n + 1) (hi : i < n) (h : ps'.ws = ps.ws.set (1 + 2 * i) v) : wT ps' = wT ps ∧ wN ps' = upd (wN ps) i v ∧ wK ps' = wK ps := by
  unfold wT
  refine ⟨by rw [h, getD_set_other _ (by omega)], funext fun j => ?_, funext fun j => ?_⟩
  · unfold wN upd
    rw [h]
    by_cases e : j = i
    · subst e; rw [if_pos rfl]; exact getD_set_same v (by omega)
    · rw [if_neg e, getD_set_other _ (by omega)]
  · unfold wK; rw [h, getD_set_other _ (by omega)]
theorem ws_lock {ps ps' : PSta} {v : Int} {i n : Nat} (hn : ps.ws.length = 2 * n + 1) (hi : i < n) (h : ps'.ws = ps.ws.set (2 + 2 * i) v) : wT ps' = wT ps ∧ wN ps' = wN ps ∧ wK ps' = upd (wK ps) i v := by
  unfold wT
  refine ⟨by rw [h, getD_set_other _ (by omega)], funext fun j => ?_, funext fun j => ?_⟩
  · unfold wN; rw [h, getD_set_other _ (by omega)]
  · unfold wK upd
    rw [h]
    by_cases e : j = i
    · subst e; rw [if_pos rfl]; exact getD_set_same v (by omega)
    · rw [if_neg e, getD_set_other _ (by omega)]

/-! ### the queue -/
structure OrdJ (f : FL) (g : Option Nat) (W : List Nat) : Prop where
  n8 : f.s.n ≤ 8
  len : f.ps.ws.length = 2 * f.s.n + 1
  ac : f.ps.ac.length = f.s.n
  cor : Cor f.s.n f.s.st f.pc f.oth (wT f.ps) (wN f.ps) (wK f.ps) g W
/-- how far one has come -/
def phs (x p : Int) : Nat := if x = 1 then (10 - p).toNat else if x = 3 then (4 - p).toNat else if x = 2 then 5 else 0
/-- a step: what comes of the queue -/
inductive OrdJ.StepQ (W : List Nat) (t : Int) (d : Dd) (W' : List Nat) : Prop where
  | same (h0 : d.enq = false) (h1 : d.ev ≠ 1) (h2 : d.ev ≠ 2) (e : W' = W) : StepQ W t d W'
  | enq (hd : d = ⟨0, true, false, false⟩) (k : Nat) (ht : t = k) (e : W' = W ++ [k]) : StepQ W t d W'
  | grant (hd : d = ⟨1, false, false, false⟩) (k : Nat) (ht : t = k) (e : W = k :: W') (hn : k ∉ W') : StepQ W t d W'
  | both (hd : d = ⟨1, true, false, false⟩) (k : Nat) (ht : t = k) (e : W = []) (e' : W' = []) : StepQ W t d W'
/-- a step of k leaves f' and tells d: k does x, and has come to p -/
structure Stp (f f' : FL) (W : List Nat) (k : Nat) (d : Dd) (g' : Option Nat) (W' : List Nat) (x p : Int) : Prop where
  ord : OrdJ f' g' W'
  q : OrdJ.StepQ W k d W'
  st : ∀ j, f'.s.st j = upd f.s.st k x j
  n : f'.s.n = f.s.n
  pc : ∀ j, f'.pc j = upd f.pc k p j
  D : f'.ps.D.length ≤ f.ps.D.length + 1
  on : phs x p + 1 ≤ phs (f.s.st k) (f.pc k) ∨ f.s.st k = 4 ∨ (x = f.s.st k ∧ p = f.pc k ∧ f'.ps.ws = f.ps.ws ∧ (f.s.st k = 0 ∨ f.s.st k = 2 ∨ (f.s.st k = 1 ∧ f.pc k = 4 ∧ wK f.ps k ≠ 0) ∨ (f.s.st k = 3 ∧ f.pc k = 2 ∧ wN f.ps k = 0)))
  ev : d.ev = 1 → f.s.st k = 1 ∧ x = 2 ∧ p = 0 ∧ ∃ b, d = ⟨1, b, false, false⟩
  seat : x = f.s.st k → f'.s = f.s
  s1 : f.s.st k = 1 → (x = 1 ∧ p ≠ 0) ∨ (x = 2 ∧ d.ev = 1)
  s3 : f.s.st k = 3 → x = 3 ∨ x = 0
  s0 : f.s.st k = 0 → x = 0 ∧ p = f.pc k
theorem upd_self {α : Type} (f : Nat → α) (k : Nat) : ∀ j, f j = upd f k (f k) j := fun j => by
  unfold upd; split
  · rename_i e; rw [e]
  · rfl
namespace OrdJ
variable {f : FL} {g : Option Nat} {W : List Nat} {L : Lp}
theorem lock (h : OrdJ f g W) (t d : Int) : OrdJ (f.lock t d) g W := by
  unfold FL.lock SS.lock
  split
  · rename_i he
    unfold lockE at he
    split at he
    · rename_i hc
      split at he
      · rename_i hs
        exact ⟨h.n8, h.len, h.ac, h.cor.lock (by omega) hs⟩
      · omega
    · omega
  · exact h
theorem turn (h : OrdJ f g W) (t x : Int) (hx : x = 3 ∨ x = 4) : OrdJ (f.turn t x) g W := by
  unfold FL.turn SS.turn
  split
  · rename_i he
    unfold turnE at he
    split at he
    · rename_i hc
      split at he
      · omega
      · split at he
        · rename_i hs
          exact ⟨h.n8, h.len, h.ac, h.cor.turn (by omega) (.inl hs) (.inr hx)⟩
        · omega
    · omega
  · exact h
theorem probe (h : OrdJ f g W) (t : Int) : OrdJ (f.probe t) g W := by
  unfold FL.probe SS.probe
  split
  · exact h.turn t 4 (.inr rfl)
  · exact h
theorem at_none {t : Int} (hk : ¬ ((0 : Int) ≤ t ∧ t < f.s.n)) : f.did L t t = Dd.no ∧ f.step L t t = f := by
  have e : f.did L t t = Dd.no := by unfold FL.did; rw [if_neg hk]
  have em : f.mid L t t = f := by unfold FL.mid; rw [if_neg hk]
  refine ⟨e, ?_⟩
  have e0 : f.s.fin t Dd.no.ev = f.s := by
    have e0 : endO f.s t Dd.no.ev = none := by unfold endO; rw [if_neg hk]
    unfold SS.fin
    rw [e0]
  unfold FL.step
  rw [e, em, e0]
theorem at_idle {k : Nat} (hk : k < f.s.n) (s1 : f.s.st k ≠ 1) (s3 : f.s.st k ≠ 3) (s4 : f.s.st k ≠ 4) : f.did L k k = Dd.no ∧ f.step L k k = f := by
  have ht : (0 : Int) ≤ (k : Int) ∧ (k : Int) < f.s.n := by omega
  have e : f.did L k k = Dd.no := by unfold FL.did; rw [if_pos ht, Int.toNat_natCast, if_neg s1, if_neg s3, if_neg s4]
  have em : f.mid L k k = f := by unfold FL.mid; rw [if_pos ht, Int.toNat_natCast, if_neg s1, if_neg s3, if_neg s4]
  refine ⟨e, ?_⟩
  unfold FL.step
  rw [e, em, fin_no]
theorem at_one {k : Nat} (hk : k < f.s.n) (s1 : f.s.st k = 1) : f.did L k k = f.acqD L k k ∧ f.step L k k = { f.acq L k k with s := f.s.fin k (f.acqD L k k).ev } := by
  have ht : (0 : Int) ≤ (k : Int) ∧ (k : Int) < f.s.n := by omega
  have e : f.did L k k = f.acqD L k k := by unfold FL.did; rw [if_pos ht, Int.toNat_natCast, if_pos s1]
  have em : f.mid L k k = f.acq L k k := by unfold FL.mid; rw [if_pos ht, Int.toNat_natCast, if_pos s1]
  refine ⟨e, ?_⟩
  unfold FL.step
  rw [e, em]
theorem at_three {k : Nat} (hk : k < f.s.n) (s3 : f.s.st k = 3) : f.did L k k = f.relD L k k ∧ f.step L k k = { f.rel L k k with s := f.s.fin k (f.relD L k k).ev } := by
  have ht : (0 : Int) ≤ (k : Int) ∧ (k : Int) < f.s.n := by omega
  have e : f.did L k k = f.relD L k k := by unfold FL.did; rw [if_pos ht, Int.toNat_natCast, if_neg (by omega), if_pos s3]
  have em : f.mid L k k = f.rel L k k := by unfold FL.mid; rw [if_pos ht, Int.toNat_natCast, if_neg (by omega), if_pos s3]
  refine ⟨e, ?_⟩
  unfold FL.step
  rw [e, em]
theorem at_four {k : Nat} (hk : k < f.s.n) (s4 : f.s.st k = 4) : f.did L k k = f.askD L k k ∧ f.step L k k = { f.ask L k k with s := f.s.fin k (f.askD L k k).ev } := by
  have ht : (0 : Int) ≤ (k : Int) ∧ (k : Int) < f.s.n := by omega
  have e : f.did L k k = f.askD L k k := by unfold FL.did; rw [if_pos ht, Int.toNat_natCast, if_neg (by omega), if_neg (by omega), if_pos s4]
  have em : f.mid L k k = f.ask L k k := by unfold FL.mid; rw [if_pos ht, Int.toNat_natCast, if_neg (by omega), if_neg (by omega), if_pos s4]
  refine ⟨e, ?_⟩
  unfold FL.step
  rw [e, em]
/-- the words turn -/
theorem put (h : OrdJ f g W) {f' : FL} {g' : Option Nat} {W' : List Nat} (hn : f'.s.n = f.s.n) (hl : f'.ps.ws.length = f.ps.ws.length) (ha : f'.ps.ac.length = f.ps.ac.length) (hc : Cor f.s.n f'.s.st f'.pc f'.oth (wT f'.ps) (wN f'.ps) (wK f'.ps) g' W') : OrdJ f' g' W' :=
  ⟨by rw [hn]; exact h.n8, by rw [hl, hn]; exact h.len, by rw [ha, hn]; exact h.ac, by rw [hn]; exact hc⟩
theorem nxA (h2 : L.a2 = 1) (i : Nat) : L.nx (i : Int) = ((1 + 2 * i : Nat) : Int) := by unfold Lp.nx; rw [h2]; omega
theorem lkA (h2 : L.a2 = 1) (i : Nat) : L.lk (i : Int) = ((2 + 2 * i : Nat) : Int) := by unfold Lp.lk; rw [h2]; omega

/-- (1) its first step -/
theorem at_nxt0 (h : OrdJ f g W) (h2 : L.a2 = 1) {k : Nat} (hk : k < f.s.n) (s1 : f.s.st k = 1) (p0 : f.pc k = 0) :
    f.did L k k = Dd.no ∧ ∃ ps, f.step L k k = { f with pc := upd f.pc k 1, ps := ps } ∧ OrdJ { f with pc := upd f.pc k 1, ps := ps } g W ∧ ps.D.length = f.ps.D.length + 1 := by
  obtain ⟨ed, es⟩ := at_one (L := L) hk s1
  have hl := h.len
  have hac : k < f.ps.ac.length := by rw [h.ac]; exact hk
  obtain ⟨b, c, d⟩ := do_store (v := 0) hac (nxA h2 k) (show 1 + 2 * k < f.ps.ws.length by omega)
  have e1 : f.acq L k k = { f with pc := upd f.pc k 1, ps := doS f.ps k 2 (L.nx k) 0 0 } := by unfold FL.acq; rw [if_pos p0]
  have e2 : f.acqD L k k = Dd.no := by unfold FL.acqD; rw [if_pos p0]
  rw [e1, e2, fin_no] at es
  rw [e2] at ed
  obtain ⟨wt, wn, wk⟩ := ws_next hl hk b
  refine ⟨ed, _, es, h.put rfl (by show (doS _ _ _ _ _ _).ws.length = _; rw [b, List.length_set]) c ?_, d⟩
  show Cor _ _ (upd f.pc k 1) _ (wT (doS _ _ _ _ _ _)) (wN (doS _ _ _ _ _ _)) (wK (doS _ _ _ _ _ _)) g W
  rw [wt, wn, wk]
  exact h.cor.nxt0 hk s1 p0
theorem stp1 (h : OrdJ f g W) (h1 : L.a1 = 0) (h2 : L.a2 = 1) {k : Nat} (hk : k < f.s.n) (s1 : f.s.st k = 1) : ∃ g' W' x p, Stp f (f.step L k k) W k (f.did L k k) g' W' x p := by
  obtain ⟨ed, es⟩ := at_one (L := L) hk s1
  rw [ed, es]
  have hl := h.len
  have hac : k < f.ps.ac.length := by rw [h.ac]; exact hk
  have prg := h.cor.prg k
  by_cases p0 : f.pc k = 0
  · obtain ⟨b, c, d⟩ := do_store (v := 0) hac (nxA h2 k) (show 1 + 2 * k < f.ps.ws.length by omega)
    have e1 : f.acq L k k = { f with pc := upd f.pc k 1, ps := doS f.ps k 2 (L.nx k) 0 0 } := by unfold FL.acq; rw [if_pos p0]
    have e2 : f.acqD L k k = Dd.no := by unfold FL.acqD; rw [if_pos p0]
    rw [e1, e2, fin_no]
    obtain ⟨wt, wn, wk⟩ := ws_next hl hk b
    refine ⟨g, W, 1, 1, h.put rfl (by show (doS _ _ _ _ _ _).ws.length = _; rw [b, List.length_set]) c ?_, .same rfl (by decide) (by decide) rfl, fun j => by rw [← s1]; exact upd_self _ _ j, rfl, fun _ => rfl, Nat.le_of_eq d, .inl (by rw [s1, p0]; decide), fun q => absurd q (by decide), fun _ => rfl, fun _ => .inl ⟨rfl, by decide⟩, fun q => by omega, fun q => by omega⟩
    show Cor _ _ (upd f.pc k 1) _ (wT (doS _ _ _ _ _ _)) (wN (doS _ _ _ _ _ _)) (wK (doS _ _ _ _ _ _)) g W
    rw [wt, wn, wk]
    exact h.cor.nxt0 hk s1 p0
  by_cases p1 : f.pc k = 1
  · obtain ⟨a, b, c, d⟩ := do_swap (v := (k : Int) + 1) hac (show L.a1 = ((0 : Nat) : Int) from h1) (show 0 < f.ps.ws.length by omega)
    have hT : tellS f.ps k 3 L.a1 = wT f.ps := a
    have e1 : f.acq L k k = { f with pc := upd f.pc k (if wT f.ps = 0 then 0 else 2), oth := upd f.oth k (wT f.ps), ps := doS f.ps k 3 L.a1 0 ((k : Int) + 1) } := by unfold FL.acq; rw [if_neg p0, if_pos p1, hT]
    have e2 : f.acqD L k k = ⟨if wT f.ps = 0 then 1 else 0, true, false, false⟩ := by unfold FL.acqD; rw [if_neg p0, if_pos p1, hT]
    obtain ⟨wt, wn, wk⟩ := ws_tail (by omega) b
    by_cases q : g.toList ++ W = []
    · have hT0 : wT f.ps = 0 := by rw [h.cor.tl, q]; rfl
      obtain ⟨q1, rfl⟩ := List.append_eq_nil_iff.1 q
      have hg : g = none := by cases g with
        | none => rfl
        | some a => cases q1
      subst hg
      rw [e1, e2, hT0, if_pos rfl, if_pos rfl, fin_some hk (by rw [s1]; rfl : behindI (f.s.st k) 1 = some 2)]
      refine ⟨some k, [], 2, 0, h.put rfl (by show (doS _ _ _ _ _ _).ws.length = _; rw [b, List.length_set]) c ?_, .both rfl k rfl rfl rfl, fun _ => rfl, rfl, fun _ => rfl, Nat.le_of_eq d, .inl (by rw [s1, p1]; decide), fun _ => ⟨s1, rfl, rfl, true, rfl⟩, fun q => by omega, fun _ => .inr ⟨rfl, rfl⟩, fun q => by omega, fun q => by omega⟩
      show Cor _ (upd f.s.st k 2) (upd f.pc k 0) (upd f.oth k 0) (wT (doS _ _ _ _ _ _)) (wN (doS _ _ _ _ _ _)) (wK (doS _ _ _ _ _ _)) (some k) []
      rw [wt, wn, wk]
      exact h.cor.enq0 hk s1 p1 0
    · have hT0 : wT f.ps ≠ 0 := by
        rw [h.cor.tl]
        cases hq : g.toList ++ W with
        | nil => exact absurd hq q
        | cons i r =>
          obtain ⟨j, _, hj⟩ := lastM_pos 0 i r
          rw [hj]; omega
      rw [e1, e2, if_neg hT0, if_neg hT0]
      rw [show f.s.fin k (⟨0, true, false, false⟩ : Dd).ev = f.s from fin_no f.s k]
      refine ⟨g, W ++ [k], 1, 2, h.put rfl (by show (doS _ _ _ _ _ _).ws.length = _; rw [b, List.length_set]) c ?_, .enq rfl k rfl rfl, fun j => by rw [← s1]; exact upd_self _ _ j, rfl, fun _ => rfl, Nat.le_of_eq d, .inl (by rw [s1, p1]; decide), fun q => absurd q (by decide), fun _ => rfl, fun _ => .inl ⟨rfl, by decide⟩, fun q => by omega, fun q => by omega⟩
      show Cor _ _ (upd f.pc k 2) (upd f.oth k (wT f.ps)) (wT (doS _ _ _ _ _ _)) (wN (doS _ _ _ _ _ _)) (wK (doS _ _ _ _ _ _)) g (W ++ [k])
      rw [wt, wn, wk]
      exact h.cor.enq q hk s1 p1
  by_cases p2 : f.pc k = 2
  · obtain ⟨b, c, d⟩ := do_store (v := 1) hac (lkA h2 k) (show 2 + 2 * k < f.ps.ws.length by omega)
    have e1 : f.acq L k k = { f with pc := upd f.pc k 3, ps := doS f.ps k 2 (L.lk k) 0 1 } := by unfold FL.acq; rw [if_neg p0, if_neg p1, if_pos p2]
    have e2 : f.acqD L k k = Dd.no := by unfold FL.acqD; rw [if_neg p0, if_neg p1, if_pos p2]
    rw [e1, e2, fin_no]
    obtain ⟨wt, wn, wk⟩ := ws_lock hl hk b
    refine ⟨g, W, 1, 3, h.put rfl (by show (doS _ _ _ _ _ _).ws.length = _; rw [b, List.length_set]) c ?_, .same rfl (by decide) (by decide) rfl, fun j => by rw [← s1]; exact upd_self _ _ j, rfl, fun _ => rfl, Nat.le_of_eq d, .inl (by rw [s1, p2]; decide), fun q => absurd q (by decide), fun _ => rfl, fun _ => .inl ⟨rfl, by decide⟩, fun q => by omega, fun q => by omega⟩
    show Cor _ _ (upd f.pc k 3) _ (wT (doS _ _ _ _ _ _)) (wN (doS _ _ _ _ _ _)) (wK (doS _ _ _ _ _ _)) g W
    rw [wt, wn, wk]
    exact h.cor.lkd hk s1 p2
  by_cases p3 : f.pc k = 3
  · obtain ⟨i, hi, ho⟩ := h.cor.ahead hk s1 (.inr p3)
    have hi1 : f.oth k - 1 = (i : Int) := by omega
    obtain ⟨b, c, d⟩ := do_store (v := (k : Int) + 1) hac (show L.nx (f.oth k - 1) = ((1 + 2 * i : Nat) : Int) by rw [hi1]; exact nxA h2 i) (show 1 + 2 * i < f.ps.ws.length by omega)
    have e1 : f.acq L k k = { f with pc := upd f.pc k 4, ps := doS f.ps k 2 (L.nx (f.oth k - 1)) 0 ((k : Int) + 1) } := by unfold FL.acq; rw [if_neg p0, if_neg p1, if_neg p2, if_pos p3]
    have e2 : f.acqD L k k = Dd.no := by unfold FL.acqD; rw [if_neg p0, if_neg p1, if_neg p2, if_pos p3]
    rw [e1, e2, fin_no]
    obtain ⟨wt, wn, wk⟩ := ws_next hl hi b
    refine ⟨g, W, 1, 4, h.put rfl (by show (doS _ _ _ _ _ _).ws.length = _; rw [b, List.length_set]) c ?_, .same rfl (by decide) (by decide) rfl, fun j => by rw [← s1]; exact upd_self _ _ j, rfl, fun _ => rfl, Nat.le_of_eq d, .inl (by rw [s1, p3]; decide), fun q => absurd q (by decide), fun _ => rfl, fun _ => .inl ⟨rfl, by decide⟩, fun q => by omega, fun q => by omega⟩
    show Cor _ _ (upd f.pc k 4) _ (wT (doS _ _ _ _ _ _)) (wN (doS _ _ _ _ _ _)) (wK (doS _ _ _ _ _ _)) g W
    rw [wt, wn, wk]
    exact h.cor.nxt hk s1 p3 ho
  have p4 : f.pc k = 4 := by omega
  obtain ⟨a, b, c, d⟩ := do_load hac (lkA h2 k) (show 2 + 2 * k < f.ps.ws.length by omega)
  have hT : tellS f.ps k 1 (L.lk k) = wK f.ps k := a
  have e1 : f.acq L k k = { f with pc := upd f.pc k (if wK f.ps k = 0 then 0 else 4), ps := doS f.ps k 1 (L.lk k) 0 0 } := by unfold FL.acq; rw [if_neg p0, if_neg p1, if_neg p2, if_neg p3, hT]
  have e2 : f.acqD L k k = if wK f.ps k = 0 then ⟨1, false, false, false⟩ else Dd.no := by unfold FL.acqD; rw [if_neg p0, if_neg p1, if_neg p2, if_neg p3, hT]
  obtain ⟨wt, wn, wk⟩ := ws_same b
  rcases h.cor.looks hk s1 p4 with ⟨rfl, r, rfl, hz⟩ | hz
  · rw [e1, e2, if_pos hz, if_pos hz, fin_some hk (by rw [s1]; rfl : behindI (f.s.st k) 1 = some 2)]
    have hnr : k ∉ r := (List.nodup_cons.1 h.cor.nodup).1
    refine ⟨some k, r, 2, 0, h.put rfl (by show (doS _ _ _ _ _ _).ws.length = _; rw [b]) c ?_, .grant rfl k rfl rfl hnr, fun _ => rfl, rfl, fun _ => rfl, Nat.le_of_eq d, .inl (by rw [s1, p4]; decide), fun _ => ⟨s1, rfl, rfl, false, rfl⟩, fun q => by omega, fun _ => .inr ⟨rfl, rfl⟩, fun q => by omega, fun q => by omega⟩
    show Cor _ (upd f.s.st k 2) (upd f.pc k 0) _ (wT (doS _ _ _ _ _ _)) (wN (doS _ _ _ _ _ _)) (wK (doS _ _ _ _ _ _)) (some k) r
    rw [wt, wn, wk]
    exact h.cor.grant
  · have hz0 : wK f.ps k ≠ 0 := by omega
    rw [e1, e2, if_neg hz0, if_neg hz0, fin_no]
    have ep : upd f.pc k 4 = f.pc := funext fun j => by rw [← p4]; exact (upd_self f.pc k j).symm
    refine ⟨g, W, 1, 4, h.put rfl (by show (doS _ _ _ _ _ _).ws.length = _; rw [b]) c ?_, .same rfl (by decide) (by decide) rfl, fun j => by rw [← s1]; exact upd_self _ _ j, rfl, fun _ => rfl, Nat.le_of_eq d, .inr (.inr ⟨s1.symm, p4.symm, b, .inr (.inr (.inl ⟨s1, p4, hz0⟩))⟩), fun q => absurd q (by decide), fun _ => rfl, fun _ => .inl ⟨rfl, by decide⟩, fun q => by omega, fun q => by omega⟩
    show Cor _ _ (upd f.pc k 4) _ (wT (doS _ _ _ _ _ _)) (wN (doS _ _ _ _ _ _)) (wK (doS _ _ _ _ _ _)) g W
    rw [wt, wn, wk, ep]
    exact h.cor

theorem stp3 (h : OrdJ f g W) (h1 : L.a1 = 0) (h2 : L.a2 = 1) {k : Nat} (hk : k < f.s.n) (s3 : f.s.st k = 3) : ∃ g' W' x p, Stp f (f.step L k k) W k (f.did L k k) g' W' x p := by
  obtain ⟨ed, es⟩ := at_three (L := L) hk s3
  rw [ed, es]
  obtain rfl := h.cor.held hk (.inr (.inl s3))
  have hl := h.len
  have hac : k < f.ps.ac.length := by rw [h.ac]; exact hk
  have prg := h.cor.prg k
  have pc3 := h.cor.pc3 k hk s3
  -- it loads its next
  have look : ∀ (p0 : Int), f.pc k = p0 → (p0 = 0 ∨ p0 = 2) → (wN f.ps k = 0 → p0 = 2 → W ≠ []) → ∀ f', f' = { f with pc := upd f.pc k (if wN f.ps k = 0 then (if p0 = 0 then 1 else 2) else 3), oth := upd f.oth k (wN f.ps k), ps := doS f.ps k 1 (L.nx k) 0 0 } →
      ∃ g' W' x p, Stp f f' W k Dd.no g' W' x p := by
    intro p0 hp hp0 hne f' hf'
    obtain ⟨a, b, c, d⟩ := do_load hac (nxA h2 k) (show 1 + 2 * k < f.ps.ws.length by omega)
    obtain ⟨wt, wn, wk⟩ := ws_same b
    by_cases hz : wN f.ps k = 0
    · rw [if_pos hz] at hf'
      rcases hp0 with rfl | rfl
      · rw [if_pos rfl] at hf'
        subst hf'
        refine ⟨some k, W, 3, 1, h.put rfl (by show (doS _ _ _ _ _ _).ws.length = _; rw [b]) c ?_, .same rfl (by decide) (by decide) rfl, fun j => by rw [← s3]; exact upd_self _ _ j, rfl, fun _ => rfl, Nat.le_of_eq d, .inl (by rw [s3, hp]; decide), fun q => absurd q (by decide), fun _ => rfl, fun q => by omega, fun _ => .inl rfl, fun q => by omega⟩
        show Cor _ _ (upd f.pc k 1) (upd f.oth k _) (wT (doS _ _ _ _ _ _)) (wN (doS _ _ _ _ _ _)) (wK (doS _ _ _ _ _ _)) (some k) W
        rw [wt, wn, wk]
        exact h.cor.unl s3 (by omega) (fun q => by omega) (fun q => by omega)
      · rw [if_neg (by decide)] at hf'
        subst hf'
        refine ⟨some k, W, 3, 2, h.put rfl (by show (doS _ _ _ _ _ _).ws.length = _; rw [b]) c ?_, .same rfl (by decide) (by decide) rfl, fun j => by rw [← s3]; exact upd_self _ _ j, rfl, fun _ => rfl, Nat.le_of_eq d, .inr (.inr ⟨s3.symm, hp.symm, b, .inr (.inr (.inr ⟨s3, hp, hz⟩))⟩), fun q => absurd q (by decide), fun _ => rfl, fun q => by omega, fun _ => .inl rfl, fun q => by omega⟩
        show Cor _ _ (upd f.pc k 2) (upd f.oth k _) (wT (doS _ _ _ _ _ _)) (wN (doS _ _ _ _ _ _)) (wK (doS _ _ _ _ _ _)) (some k) W
        rw [wt, wn, wk]
        exact h.cor.unl s3 (by omega) (fun _ => hne hz rfl) (fun q => by omega)
    · rw [if_neg hz] at hf'
      subst hf'
      refine ⟨some k, W, 3, 3, h.put rfl (by show (doS _ _ _ _ _ _).ws.length = _; rw [b]) c ?_, .same rfl (by decide) (by decide) rfl, fun j => by rw [← s3]; exact upd_self _ _ j, rfl, fun _ => rfl, Nat.le_of_eq d, .inl (by rw [s3, hp]; rcases hp0 with rfl | rfl <;> decide), fun q => absurd q (by decide), fun _ => rfl, fun q => by omega, fun _ => .inl rfl, fun q => by omega⟩
      show Cor _ _ (upd f.pc k 3) (upd f.oth k _) (wT (doS _ _ _ _ _ _)) (wN (doS _ _ _ _ _ _)) (wK (doS _ _ _ _ _ _)) (some k) W
      rw [wt, wn, wk]
      refine h.cor.unl s3 (by omega) (fun q => by omega) fun _ => ?_
      rcases h.cor.nextOf with ⟨_, q⟩ | ⟨j, r, q1, q2⟩
      · exact absurd q hz
      · rcases q2 with q2 | q2
        · exact absurd q2.1 hz
        · exact ⟨j, r, q1, q2.1, q2.2.1⟩
  have tellN : tellS f.ps k 1 (L.nx k) = wN f.ps k := (do_load hac (nxA h2 k) (show 1 + 2 * k < f.ps.ws.length by omega)).1
  by_cases p0 : f.pc k = 0
  · have e2 : f.relD L k k = Dd.no := by unfold FL.relD; rw [if_pos p0]
    rw [e2, fin_no]
    refine look 0 p0 (.inl rfl) (fun _ q => by omega) _ ?_
    unfold FL.rel
    rw [if_pos p0, tellN, if_pos rfl]
  by_cases p1 : f.pc k = 1
  · obtain ⟨a, b, c, d⟩ := do_cas (old := (k : Int) + 1) (v := 0) hac (show L.a1 = ((0 : Nat) : Int) from h1) (show 0 < f.ps.ws.length by omega)
    have e1 : f.rel L k k = { f with pc := upd f.pc k (if casT f.ps k L.a1 ((k : Int) + 1) = true then 0 else 2), ps := doS f.ps k 4 L.a1 ((k : Int) + 1) 0 } := by unfold FL.rel; rw [if_neg p0, if_pos p1]
    have e2 : f.relD L k k = if casT f.ps k L.a1 ((k : Int) + 1) = true then ⟨3, false, false, false⟩ else Dd.no := by unfold FL.relD; rw [if_neg p0, if_pos p1]
    cases W with
    | nil =>
      have hT : f.ps.ws.getD 0 0 = (k : Int) + 1 := h.cor.tl
      have hc := a.2 hT
      rw [if_pos hT] at b
      obtain ⟨wt, wn, wk⟩ := ws_tail (by omega) b
      rw [e1, e2, if_pos hc, if_pos hc, fin_some hk (by rw [s3]; rfl : behindI (f.s.st k) 3 = some 0)]
      refine ⟨none, [], 0, 0, h.put rfl (by show (doS _ _ _ _ _ _).ws.length = _; rw [b, List.length_set]) c ?_, .same rfl (by decide) (by decide) rfl, fun _ => rfl, rfl, fun _ => rfl, Nat.le_of_eq d, .inl (by rw [s3, p1]; decide), fun q => absurd q (by decide), fun q => by omega, fun q => by omega, fun _ => .inr rfl, fun q => by omega⟩
      show Cor _ (upd f.s.st k 0) (upd f.pc k 0) _ (wT (doS _ _ _ _ _ _)) (wN (doS _ _ _ _ _ _)) (wK (doS _ _ _ _ _ _)) none []
      rw [wt, wn, wk]
      exact h.cor.freeE
    | cons j r =>
      have hT : f.ps.ws.getD 0 0 ≠ (k : Int) + 1 := by
        have ht := h.cor.tl
        have ht : f.ps.ws.getD 0 0 = lastM ((k : Int) + 1) (j :: r) := ht
        obtain ⟨i, hi, hj⟩ := lastM_pos ((k : Int) + 1) j r
        rw [ht, hj]
        intro q
        have : i = k := by omega
        subst this
        exact h.cor.notW hi
      have hc : ¬ casT f.ps k L.a1 ((k : Int) + 1) = true := fun q => hT (a.1 q)
      rw [if_neg hT] at b
      obtain ⟨wt, wn, wk⟩ := ws_same b
      rw [e1, e2, if_neg hc, if_neg hc, fin_no]
      have eo : upd f.oth k (f.oth k) = f.oth := funext fun j => (upd_self f.oth k j).symm
      refine ⟨some k, j :: r, 3, 2, h.put rfl (by show (doS _ _ _ _ _ _).ws.length = _; rw [b]) c ?_, .same rfl (by decide) (by decide) rfl, fun j => by rw [← s3]; exact upd_self _ _ j, rfl, fun _ => rfl, Nat.le_of_eq d, .inl (by rw [s3, p1]; decide), fun q => absurd q (by decide), fun _ => rfl, fun q => by omega, fun _ => .inl rfl, fun q => by omega⟩
      show Cor _ _ (upd f.pc k 2) f.oth (wT (doS _ _ _ _ _ _)) (wN (doS _ _ _ _ _ _)) (wK (doS _ _ _ _ _ _)) (some k) (j :: r)
      rw [wt, wn, wk, ← eo]
      exact h.cor.unl s3 (by omega) (fun _ => by simp) (fun q => by omega)
  by_cases p2 : f.pc k = 2
  · have e2 : f.relD L k k = Dd.no := by unfold FL.relD; rw [if_neg p0, if_neg p1, if_pos p2]
    rw [e2, fin_no]
    refine look 2 p2 (.inr rfl) (fun _ _ => h.cor.un2 k rfl s3 p2) _ ?_
    unfold FL.rel
    rw [if_neg p0, if_neg p1, if_pos p2, tellN, if_neg (by decide : ¬ (2 : Int) = 0)]
  have p3 : f.pc k = 3 := by omega
  obtain ⟨j, r, rfl, ho, pj⟩ := h.cor.un3 k rfl s3 p3
  have hj : j < f.s.n := h.cor.lt j (by simp)
  have hi1 : f.oth k - 1 = (j : Int) := by omega
  obtain ⟨b, c, d⟩ := do_store (v := 0) hac (show L.lk (f.oth k - 1) = ((2 + 2 * j : Nat) : Int) by rw [hi1]; exact lkA h2 j) (show 2 + 2 * j < f.ps.ws.length by omega)
  have e1 : f.rel L k k = { f with pc := upd f.pc k 0, ps := doS f.ps k 2 (L.lk (f.oth k - 1)) 0 0 } := by unfold FL.rel; rw [if_neg p0, if_neg p1, if_neg p2]
  have e2 : f.relD L k k = ⟨3, false, false, false⟩ := by unfold FL.relD; rw [if_neg p0, if_neg p1, if_neg p2]
  obtain ⟨wt, wn, wk⟩ := ws_lock hl hj b
  rw [e1, e2, fin_some hk (by rw [s3]; rfl : behindI (f.s.st k) 3 = some 0)]
  refine ⟨none, j :: r, 0, 0, h.put rfl (by show (doS _ _ _ _ _ _).ws.length = _; rw [b, List.length_set]) c ?_, .same rfl (by decide) (by decide) rfl, fun _ => rfl, rfl, fun _ => rfl, Nat.le_of_eq d, .inl (by rw [s3, p3]; decide), fun q => absurd q (by decide), fun q => by omega, fun q => by omega, fun _ => .inr rfl, fun q => by omega⟩
  show Cor _ (upd f.s.st k 0) (upd f.pc k 0) _ (wT (doS _ _ _ _ _ _)) (wN (doS _ _ _ _ _ _)) (wK (doS _ _ _ _ _ _)) none (j :: r)
  rw [wt, wn, wk]
  exact h.cor.freeW pj

theorem stp4 (h : OrdJ f g W) (h1 : L.a1 = 0) (h2 : L.a2 = 1) {k : Nat} (hk : k < f.s.n) (s4 : f.s.st k = 4) : ∃ g' W' x p, Stp f (f.step L k k) W k (f.did L k k) g' W' x p := by
  obtain ⟨ed, es⟩ := at_four (L := L) hk s4
  rw [ed, es]
  have hl := h.len
  have hac : k < f.ps.ac.length := by rw [h.ac]; exact hk
  obtain ⟨a, b, c, d⟩ := do_load hac (nxA h2 k) (show 1 + 2 * k < f.ps.ws.length by omega)
  obtain ⟨wt, wn, wk⟩ := ws_same b
  have p0 := h.cor.pcI k hk (by omega) (by omega)
  obtain ⟨ev, hev, e2⟩ : ∃ ev, (ev = 4 ∨ ev = 5) ∧ f.askD L k k = ⟨ev, false, false, false⟩ := by
    unfold FL.askD
    split
    · exact ⟨4, .inl rfl, rfl⟩
    · exact ⟨5, .inr rfl, rfl⟩
  rw [e2, show f.s.fin k (⟨ev, false, false, false⟩ : Dd).ev = f.s.set k 2 0 from fin_some hk (by rw [s4]; rcases hev with rfl | rfl <;> rfl)]
  unfold FL.ask
  refine ⟨g, W, 2, f.pc k, h.put rfl (by show (doS _ _ _ _ _ _).ws.length = _; rw [b]) c ?_, .same rfl (by rcases hev with rfl | rfl <;> decide) (by rcases hev with rfl | rfl <;> decide) rfl, fun _ => rfl, rfl, fun j => upd_self _ _ j, Nat.le_of_eq d, .inr (.inl s4), fun q => by rcases hev with rfl | rfl <;> exact absurd q (by decide), fun q => by omega, fun q => by omega, fun q => by omega, fun q => by omega⟩
  show Cor _ (upd f.s.st k 2) _ _ (wT (doS _ _ _ _ _ _)) (wN (doS _ _ _ _ _ _)) (wK (doS _ _ _ _ _ _)) g W
  rw [wt, wn, wk]
  exact h.cor.turn hk (.inr s4) (.inl rfl)

theorem stp (h : OrdJ f g W) (h1 : L.a1 = 0) (h2 : L.a2 = 1) {k : Nat} (hk : k < f.s.n) : ∃ g' W' x p, Stp f (f.step L k k) W k (f.did L k k) g' W' x p := by
  by_cases s1 : f.s.st k = 1
  · exact h.stp1 h1 h2 hk s1
  by_cases s3 : f.s.st k = 3
  · exact h.stp3 h1 h2 hk s3
  by_cases s4 : f.s.st k = 4
  · exact h.stp4 h1 h2 hk s4
  obtain ⟨d1, d2⟩ := at_idle (L := L) hk s1 s3 s4
  rw [d1, d2]
  have hst : f.s.st k = 0 ∨ f.s.st k = 2 := by
    by_cases hm : k ∈ g.toList ++ W
    · rcases List.mem_append.1 hm with hm | hm
      · have := h.cor.stg k (by simpa using hm); omega
      · have := h.cor.stw k hm; omega
    · have := h.cor.sto k hk hm; omega
  exact ⟨g, W, f.s.st k, f.pc k, h, .same rfl (by decide) (by decide) rfl, upd_self _ _, rfl, upd_self _ _, Nat.le_succ _, .inr (.inr ⟨rfl, rfl, rfl, by omega⟩), fun q => absurd q (by decide), fun _ => rfl, fun q => absurd q s1, fun q => absurd q s3, fun q => ⟨q, rfl⟩⟩
theorem step (h : OrdJ f g W) (h1 : L.a1 = 0) (h2 : L.a2 = 1) (t : Int) :
    ∃ g' W', OrdJ (f.step L t t) g' W' ∧ (f.step L t t).ps.D.length ≤ f.ps.D.length + 1 ∧ StepQ W t (f.did L t t) W' := by
  by_cases ht : 0 ≤ t ∧ t < f.s.n
  · obtain ⟨k, rfl⟩ := Int.eq_ofNat_of_zero_le ht.1
    obtain ⟨g', W', x, p, hs⟩ := h.stp h1 h2 (show k < f.s.n by omega)
    exact ⟨g', W', hs.ord, hs.D, hs.q⟩
  · obtain ⟨d1, d2⟩ := at_none (L := L) ht
    rw [d1, d2]
    exact ⟨g, W, h, Nat.le_succ _, .same rfl (by decide) (by decide) rfl⟩
end OrdJ

/-! ### what holds of the lock and the law's queue -/
def OrdI (f : FL) (W : List Nat) : Prop := ∃ g, OrdJ f g W
namespace OrdI
variable {f : FL} {W : List Nat} {L : Lp}
theorem lock (h : OrdI f W) (t d : Int) : OrdI (f.lock t d) W := by obtain ⟨g, h⟩ := h; exact ⟨g, h.lock t d⟩
theorem unlock (h : OrdI f W) (t : Int) : OrdI (f.turn t 3) W := by obtain ⟨g, h⟩ := h; exact ⟨g, h.turn t 3 (.inl rfl)⟩
theorem probe (h : OrdI f W) (t : Int) : OrdI (f.probe t) W := by obtain ⟨g, h⟩ := h; exact ⟨g, h.probe t⟩
theorem step (h : OrdI f W) (h1 : L.a1 = 0) (h2 : L.a2 = 1) (t : Int) : ∃ W', OrdI (f.step L t t) W' ∧ (f.step L t t).ps.D.length ≤ f.ps.D.length + 1 ∧ OrdJ.StepQ W t (f.did L t t) W' := by
  obtain ⟨g, h⟩ := h
  obtain ⟨g', W', a, b, c⟩ := h.step h1 h2 t
  exact ⟨W', ⟨g', a⟩, b, c⟩
theorem n8 (h : OrdI f W) : f.s.n ≤ 8 := by obtain ⟨g, h⟩ := h; exact h.n8
theorem len (h : OrdI f W) : W.length ≤ 8 := by
  obtain ⟨g, h⟩ := h
  have h1 : (g.toList ++ W).length ≤ (List.range f.s.n).length := List.Nodup.length_le_of_subset h.cor.nodup fun k hk => List.mem_range.2 (h.cor.lt k hk)
  have := h.n8
  rw [List.length_append, List.length_range] at h1
  omega
theorem one (h : OrdI f W) {j k : Nat} (hj : j < f.s.n) (hk : k < f.s.n) (ej : f.s.st j = 2) (ek : f.s.st k = 2) : j = k := by
  obtain ⟨g, h⟩ := h
  have h1 := h.cor.held hj (.inl ej)
  have h2 := h.cor.held hk (.inl ek)
  rw [h1] at h2
  simpa using h2
theorem lenW (h : OrdI f W) : f.ps.ws.length ≤ 4096 := by
  obtain ⟨g, h⟩ := h
  have := h.n8
  rw [h.len]
  omega
end OrdI
end Go.Proofs.YtkmikkjjnbikdaaGreat.Km
namespace Go.Proofs.YtkmikkjjnbikdaaGreat.Km
set_option linter.unusedVariables false
set_option maxRecDepth 100000

def FL.vw (f : FL) (o n m : Nat) : FL := { f with ps := f.ps.vw o n m }
def FL.nrm (f : FL) (m : Nat) : FL := { f with ps := f.ps.nrm m }
section
variable {f : FL} {L L0 : Lp} {o m k u : Nat}
/-- where the numbers are such as there are -/
structure Adr (f : FL) (L L0 : Lp) (o m k u : Nat) : Prop where
  h1 : L.a1 = (o : Int) + (0 : Nat)
  h2 : L.a2 = (o : Int) + 1
  z1 : L0.a1 = (0 : Nat)
  z2 : L0.a2 = 1
  hl : o + (2 * m + 1) ≤ f.ps.ws.length
  hu : u < f.ps.ac.length
  hm : k < m
  hy : f.s.st k = 1 → f.pc k = 3 → ∃ y : Nat, f.oth k = (y : Int) + 1 ∧ y < m
  hz : f.s.st k = 3 → f.pc k ≠ 0 → f.pc k ≠ 1 → f.pc k ≠ 2 → ∃ y : Nat, f.oth k = (y : Int) + 1 ∧ y < m
theorem nx_o (h : Adr f L L0 o m k u) (y : Nat) : L.nx (y : Int) = (o : Int) + ((1 + 2 * y : Nat) : Int) ∧ L0.nx (y : Int) = ((1 + 2 * y : Nat) : Int) := by
  unfold Lp.nx; rw [h.h2, h.z2]; omega
theorem lk_o (h : Adr f L L0 o m k u) (y : Nat) : L.lk (y : Int) = (o : Int) + ((2 + 2 * y : Nat) : Int) ∧ L0.lk (y : Int) = ((2 + 2 * y : Nat) : Int) := by
  unfold Lp.lk; rw [h.h2, h.z2]; omega
theorem cas_o (h : Adr f L L0 o m k u) (old : Int) : casT f.ps u L.a1 old = casT (f.ps.vw o (2 * m + 1) m) k L0.a1 old := by
  rw [h.h1, h.z1]
  exact cast_vw h.hu h.hm (by omega) h.hl old
theorem did_vw (h : Adr f L L0 o m k u) : f.did L k u = (f.vw o (2 * m + 1) m).did L0 k k := by
  have t := fun i K (hi : i < 2 * m + 1) => tell_vw (v := k) (m := m) (n := 2 * m + 1) (i := i) h.hu h.hm hi h.hl K
  have t0 : ∀ K, tellS f.ps u K L.a1 = tellS (f.ps.vw o (2 * m + 1) m) k K L0.a1 := fun K => by rw [h.h1, h.z1]; exact t 0 K (by omega)
  have hm := h.hm
  have tn : ∀ K, tellS f.ps u K (L.nx (k : Int)) = tellS (f.ps.vw o (2 * m + 1) m) k K (L0.nx (k : Int)) := fun K => by rw [(nx_o h k).1, (nx_o h k).2]; exact t _ K (by omega)
  have tk : ∀ K, tellS f.ps u K (L.lk (k : Int)) = tellS (f.ps.vw o (2 * m + 1) m) k K (L0.lk (k : Int)) := fun K => by rw [(lk_o h k).1, (lk_o h k).2]; exact t _ K (by omega)
  unfold FL.did FL.acqD FL.relD FL.askD
  rw [Int.toNat_natCast, t0, tk, tn, cas_o h]
  rfl
theorem mid_vw (h : Adr f L L0 o m k u) : (f.mid L k u).vw o (2 * m + 1) m = ((f.vw o (2 * m + 1) m).mid L0 k k).nrm m := by
  have t := fun i K (hi : i < 2 * m + 1) => tell_vw (v := k) (m := m) (n := 2 * m + 1) (i := i) h.hu h.hm hi h.hl K
  have hm := h.hm
  have d := fun i K old x (hi : i < 2 * m + 1) => do_vw (v := k) (m := m) (n := 2 * m + 1) (i := i) h.hu h.hm hi h.hl K old x
  have t0 : ∀ K, tellS f.ps u K L.a1 = tellS (f.ps.vw o (2 * m + 1) m) k K L0.a1 := fun K => by rw [h.h1, h.z1]; exact t 0 K (by omega)
  have tn : ∀ K, tellS f.ps u K (L.nx (k : Int)) = tellS (f.ps.vw o (2 * m + 1) m) k K (L0.nx (k : Int)) := fun K => by rw [(nx_o h k).1, (nx_o h k).2]; exact t _ K (by omega)
  have tk : ∀ K, tellS f.ps u K (L.lk (k : Int)) = tellS (f.ps.vw o (2 * m + 1) m) k K (L0.lk (k : Int)) := fun K => by rw [(lk_o h k).1, (lk_o h k).2]; exact t _ K (by omega)
  have d0 : ∀ K old x, (doS f.ps u K L.a1 old x).vw o (2 * m + 1) m = (doS (f.ps.vw o (2 * m + 1) m) k K L0.a1 old x).nrm m := fun K old x => by rw [h.h1, h.z1]; exact d 0 K old x (by omega)
  have dn : ∀ (y : Nat) K old x, y < m → (doS f.ps u K (L.nx (y : Int)) old x).vw o (2 * m + 1) m = (doS (f.ps.vw o (2 * m + 1) m) k K (L0.nx (y : Int)) old x).nrm m := fun y K old x hy => by rw [(nx_o h y).1, (nx_o h y).2]; exact d _ K old x (by omega)
  have dk : ∀ (y : Nat) K old x, y < m → (doS f.ps u K (L.lk (y : Int)) old x).vw o (2 * m + 1) m = (doS (f.ps.vw o (2 * m + 1) m) k K (L0.lk (y : Int)) old x).nrm m := fun y K old x hy => by rw [(lk_o h y).1, (lk_o h y).2]; exact d _ K old x (by omega)
  have cc := cas_o h
  unfold FL.mid
  show FL.vw (if 0 ≤ (k : Int) ∧ (k : Int) < f.s.n then _ else _) o (2 * m + 1) m = FL.nrm (if 0 ≤ (k : Int) ∧ (k : Int) < f.s.n then _ else _) m
  by_cases ht : 0 ≤ (k : Int) ∧ (k : Int) < f.s.n
  · rw [if_pos ht, if_pos ht, Int.toNat_natCast]
    show FL.vw (if f.s.st k = 1 then _ else _) o (2 * m + 1) m = FL.nrm (if f.s.st k = 1 then _ else _) m
    by_cases s1 : f.s.st k = 1
    · rw [if_pos s1, if_pos s1]
      unfold FL.acq
      show FL.vw (if f.pc k = 0 then _ else _) o (2 * m + 1) m = FL.nrm (if f.pc k = 0 then _ else _) m
      by_cases p0 : f.pc k = 0
      · rw [if_pos p0, if_pos p0]
        unfold FL.vw FL.nrm
        dsimp only
        rw [dn k _ _ _ hm]
      rw [if_neg p0, if_neg p0]
      show FL.vw (if f.pc k = 1 then _ else _) o (2 * m + 1) m = FL.nrm (if f.pc k = 1 then _ else _) m
      by_cases p1 : f.pc k = 1
      · rw [if_pos p1, if_pos p1]
        unfold FL.vw FL.nrm
        dsimp only
        rw [d0, t0]
      rw [if_neg p1, if_neg p1]
      show FL.vw (if f.pc k = 2 then _ else _) o (2 * m + 1) m = FL.nrm (if f.pc k = 2 then _ else _) m
      by_cases p2 : f.pc k = 2
      · rw [if_pos p2, if_pos p2]
        unfold FL.vw FL.nrm
        dsimp only
        rw [dk k _ _ _ hm]
      rw [if_neg p2, if_neg p2]
      show FL.vw (if f.pc k = 3 then _ else _) o (2 * m + 1) m = FL.nrm (if f.pc k = 3 then _ else _) m
      by_cases p3 : f.pc k = 3
      · rw [if_pos p3, if_pos p3]
        obtain ⟨y, hy, hy2⟩ := h.hy s1 p3
        unfold FL.vw FL.nrm
        dsimp only
        rw [hy, show (y : Int) + 1 - 1 = (y : Int) by omega, dn y _ _ _ hy2]
      rw [if_neg p3, if_neg p3]
      unfold FL.vw FL.nrm
      dsimp only
      rw [dk k _ _ _ hm, tk]
    · rw [if_neg s1, if_neg s1]
      show FL.vw (if f.s.st k = 3 then _ else _) o (2 * m + 1) m = FL.nrm (if f.s.st k = 3 then _ else _) m
      by_cases s3 : f.s.st k = 3
      · rw [if_pos s3, if_pos s3]
        unfold FL.rel
        show FL.vw (if f.pc k = 0 then _ else _) o (2 * m + 1) m = FL.nrm (if f.pc k = 0 then _ else _) m
        by_cases p0 : f.pc k = 0
        · rw [if_pos p0, if_pos p0]
          unfold FL.vw FL.nrm
          dsimp only
          rw [dn k _ _ _ hm, tn]
        rw [if_neg p0, if_neg p0]
        show FL.vw (if f.pc k = 1 then _ else _) o (2 * m + 1) m = FL.nrm (if f.pc k = 1 then _ else _) m
        by_cases p1 : f.pc k = 1
        · rw [if_pos p1, if_pos p1]
          unfold FL.vw FL.nrm
          dsimp only
          rw [d0, cc]
        rw [if_neg p1, if_neg p1]
        show FL.vw (if f.pc k = 2 then _ else _) o (2 * m + 1) m = FL.nrm (if f.pc k = 2 then _ else _) m
        by_cases p2 : f.pc k = 2
        · rw [if_pos p2, if_pos p2]
          unfold FL.vw FL.nrm
          dsimp only
          rw [dn k _ _ _ hm, tn]
        rw [if_neg p2, if_neg p2]
        obtain ⟨y, hy, hy2⟩ := h.hz s3 p0 p1 p2
        unfold FL.vw FL.nrm
        dsimp only
        rw [hy, show (y : Int) + 1 - 1 = (y : Int) by omega, dk y _ _ _ hy2]
      · rw [if_neg s3, if_neg s3]
        show FL.vw (if f.s.st k = 4 then _ else _) o (2 * m + 1) m = FL.nrm (if f.s.st k = 4 then _ else _) m
        by_cases s4 : f.s.st k = 4
        · rw [if_pos s4, if_pos s4]
          unfold FL.ask FL.vw FL.nrm
          dsimp only
          rw [dn k _ _ _ hm]
        · rw [if_neg s4, if_neg s4]
          rfl
  · rw [if_neg ht, if_neg ht]
    rfl
theorem step_vw (h : Adr f L L0 o m k u) : (f.step L k u).vw o (2 * m + 1) m = ((f.vw o (2 * m + 1) m).step L0 k k).nrm m := by
  have e := mid_vw h
  have d := did_vw h
  unfold FL.step
  rw [d]
  have : ({ f.mid L k u with s := f.s.fin k ((f.vw o (2 * m + 1) m).did L0 k k).ev } : FL).vw o (2 * m + 1) m = { (f.mid L k u).vw o (2 * m + 1) m with s := f.s.fin k ((f.vw o (2 * m + 1) m).did L0 k k).ev } := rfl
  rw [this, e]
  rfl
/-- where its words lie otherwise, nothing turns -/
theorem step_off (h : Adr f L L0 o m k u) {o' n' : Nat} (ha : o + (2 * m + 1) ≤ o' ∨ o' + n' ≤ o) : sub (f.step L k u).ps.ws o' n' = sub f.ps.ws o' n' := by
  have hm := h.hm
  have key : ∀ (i : Nat) K old x, i < 2 * m + 1 → sub (doS f.ps u K ((o : Int) + i) old x).ws o' n' = sub f.ps.ws o' n' := fun i K old x hi => do_off K old x (by omega)
  have k0 : ∀ K old x, sub (doS f.ps u K L.a1 old x).ws o' n' = sub f.ps.ws o' n' := fun K old x => by rw [h.h1]; exact key 0 K old x (by omega)
  have kn : ∀ (y : Nat) K old x, y < m → sub (doS f.ps u K (L.nx (y : Int)) old x).ws o' n' = sub f.ps.ws o' n' := fun y K old x hy => by rw [(nx_o h y).1]; exact key _ K old x (by omega)
  have kk : ∀ (y : Nat) K old x, y < m → sub (doS f.ps u K (L.lk (y : Int)) old x).ws o' n' = sub f.ps.ws o' n' := fun y K old x hy => by rw [(lk_o h y).1]; exact key _ K old x (by omega)
  show sub (f.mid L k u).ps.ws o' n' = _
  unfold FL.mid
  split
  · rw [Int.toNat_natCast]
    split
    · rename_i s1
      unfold FL.acq
      by_cases p0 : f.pc k = 0
      · rw [if_pos p0]; exact kn k _ _ _ hm
      rw [if_neg p0]
      by_cases p1 : f.pc k = 1
      · rw [if_pos p1]; exact k0 _ _ _
      rw [if_neg p1]
      by_cases p2 : f.pc k = 2
      · rw [if_pos p2]; exact kk k _ _ _ hm
      rw [if_neg p2]
      by_cases p3 : f.pc k = 3
      · rw [if_pos p3]
        obtain ⟨y, hy, hy2⟩ := h.hy s1 p3
        rw [hy, show (y : Int) + 1 - 1 = (y : Int) by omega]
        exact kn y _ _ _ hy2
      rw [if_neg p3]
      exact kk k _ _ _ hm
    · split
      · rename_i s3
        unfold FL.rel
        by_cases p0 : f.pc k = 0
        · rw [if_pos p0]; exact kn k _ _ _ hm
        rw [if_neg p0]
        by_cases p1 : f.pc k = 1
        · rw [if_pos p1]; exact k0 _ _ _
        rw [if_neg p1]
        by_cases p2 : f.pc k = 2
        · rw [if_pos p2]; exact kn k _ _ _ hm
        rw [if_neg p2]
        obtain ⟨y, hy, hy2⟩ := h.hz s3 p0 p1 p2
        rw [hy, show (y : Int) + 1 - 1 = (y : Int) by omega]
        exact kk y _ _ _ hy2
      · split
        · unfold FL.ask; exact kn k _ _ _ hm
        · rfl
  · rfl
theorem step_len (t u : Int) : (f.step L t u).ps.ws.length = f.ps.ws.length ∧ (f.step L t u).ps.ac.length = f.ps.ac.length := by
  show (f.mid L t u).ps.ws.length = _ ∧ (f.mid L t u).ps.ac.length = _
  unfold FL.mid FL.acq FL.rel FL.ask
  repeat' split
  all_goals first | exact ⟨rfl, rfl⟩ | exact do_len' _ _ _ _ _ _
theorem step_n (t u : Int) : (f.step L t u).s.n = f.s.n := SS.fin_n _ _ _
end
/-- its words at o; who has it, who waits -/
def In (f : FL) (o : Nat) (g : Option Nat) (W : List Nat) : Prop := o + (2 * f.s.n + 1) ≤ f.ps.ws.length ∧ OrdJ (f.vw o (2 * f.s.n + 1) f.s.n) g W
namespace In
variable {f : FL} {o : Nat} {g : Option Nat} {W : List Nat} {L : Lp}
theorem lock (h : In f o g W) (t d : Int) : In (f.lock t d) o g W := by
  obtain ⟨hl, h⟩ := h
  have en : (f.lock t d).s.n = f.s.n := SS.lock_n _ _ _
  refine ⟨by rw [en]; exact hl, ?_⟩
  rw [en]
  exact h.lock t d
theorem turn (h : In f o g W) (t x : Int) (hx : x = 3 ∨ x = 4) : In (f.turn t x) o g W := by
  obtain ⟨hl, h⟩ := h
  have en : (f.turn t x).s.n = f.s.n := SS.turn_n _ _ _
  refine ⟨by rw [en]; exact hl, ?_⟩
  rw [en]
  exact h.turn t x hx
/-- what another one of the port's words' users does -/
theorem far (h : In f o g W) {ps : PSta} (hl : ps.ws.length = f.ps.ws.length) (hw : sub ps.ws o (2 * f.s.n + 1) = sub f.ps.ws o (2 * f.s.n + 1)) : In { f with ps := ps } o g W := by
  obtain ⟨hl0, h⟩ := h
  refine ⟨by show o + (2 * f.s.n + 1) ≤ ps.ws.length; omega, ?_⟩
  have e : ({ f with ps := ps } : FL).vw o (2 * f.s.n + 1) f.s.n = f.vw o (2 * f.s.n + 1) f.s.n := by
    unfold FL.vw PSta.vw
    rw [hw]
  show OrdJ (({ f with ps := ps } : FL).vw o (2 * f.s.n + 1) f.s.n) g W
  rw [e]
  exact h
theorem adr (hl : o + (2 * f.s.n + 1) ≤ f.ps.ws.length) (h : OrdJ (f.vw o (2 * f.s.n + 1) f.s.n) g W) (h1 : L.a1 = o) (h2 : L.a2 = (o : Int) + 1) {k u : Nat} (hk : k < f.s.n) (hu : u < f.ps.ac.length) : Adr f L { L with a1 := 0, a2 := 1 } o f.s.n k u := by
  refine ⟨by rw [h1]; omega, h2, rfl, rfl, hl, hu, hk, fun s1 p3 => ?_, fun s3 p0 p1 p2 => ?_⟩
  · obtain ⟨i, hi, ho⟩ := h.cor.ahead (k := k) hk s1 (.inr p3)
    exact ⟨i, ho, hi⟩
  · have hg := h.cor.held (k := k) hk (.inr (.inl s3))
    have hp : f.pc k ≤ 3 := h.cor.pc3 k hk s3
    have hr : 0 ≤ f.pc k := (h.cor.prg k).1
    obtain ⟨j, r, hW, ho, _⟩ := h.cor.un3 k hg s3 (by show f.pc k = 3; omega)
    exact ⟨j, ho, h.cor.lt j (by rw [hW]; simp)⟩
theorem step (h : In f o g W) (h1 : L.a1 = o) (h2 : L.a2 = (o : Int) + 1) {k u : Nat} (hk : k < f.s.n) (hu : u < f.ps.ac.length) :
    ∃ g' W', In (f.step L k u) o g' W' ∧ OrdJ.StepQ W k (f.did L k u) W' ∧ (∀ o' n', o + (2 * f.s.n + 1) ≤ o' ∨ o' + n' ≤ o → sub (f.step L k u).ps.ws o' n' = sub f.ps.ws o' n') := by
  obtain ⟨hl, h⟩ := h
  have hA := adr hl h h1 h2 hk hu
  have e := step_vw hA
  have d := did_vw hA
  obtain ⟨g', W', x, p, hS⟩ := h.stp (L := { L with a1 := 0, a2 := 1 }) rfl rfl (k := k) hk
  have hJ := hS.ord
  refine ⟨g', W', ⟨by rw [step_n, (step_len (f := f) (L := L) k u).1]; exact hl, ?_⟩, ?_, fun o' n' ha => step_off hA ha⟩
  · rw [step_n, e]
    exact ⟨hJ.n8, hJ.len, by show (List.replicate f.s.n 0).length = _; rw [List.length_replicate]; exact (step_n (f := f.vw o (2 * f.s.n + 1) f.s.n) (k : Int) (k : Int)).symm, hJ.cor⟩
  · rw [d]; exact hS.q
/-- where nobody waits, Alone is told -/
theorem company (h : In f o g W) (h1 : L.a1 = o) (h2 : L.a2 = (o : Int) + 1) {k u : Nat} (hk : k < f.s.n) (hu : u < f.ps.ac.length) (hs : f.s.st k = 4) (hW : W = []) : (f.did L k u).ev = 4 := by
  obtain ⟨hl, h⟩ := h
  subst hW
  have hA := adr hl h h1 h2 hk hu
  rw [did_vw hA]
  have hg : g = some k := h.cor.held (k := k) hk (.inr (.inr hs))
  subst hg
  have hac : k < (f.vw o (2 * f.s.n + 1) f.s.n).ps.ac.length := by rw [h.ac]; exact hk
  have hlen := h.len
  have hk2 : k < (f.vw o (2 * f.s.n + 1) f.s.n).s.n := hk
  obtain ⟨e1, _⟩ := do_load hac (OrdJ.nxA (L := { L with a1 := 0, a2 := 1 }) rfl k) (show 1 + 2 * k < (f.vw o (2 * f.s.n + 1) f.s.n).ps.ws.length by omega)
  have hn : wN (f.vw o (2 * f.s.n + 1) f.s.n).ps k = 0 := h.cor.ch
  rw [(OrdJ.at_four (L := { L with a1 := 0, a2 := 1 }) (f := f.vw o (2 * f.s.n + 1) f.s.n) hk hs).1]
  unfold FL.askD
  rw [e1]
  unfold wN at hn
  rw [hn, if_pos rfl]
end In
end Go.Proofs.YtkmikkjjnbikdaaGreat.Km
