/- What holds of a CLH lock at all times: each one's node ahead is the node of the one before it in the queue, one node is nobody's, flags are of those who have begun; no walk. -/
import Derived.Test.YteokghghpmppnaaGreatDoorClhPlain
namespace Go.Proofs.YteokghghpmppnaaGreatDoor.Kc
set_option linter.unusedVariables false
set_option maxRecDepth 100000

/-! ### an access -/
theorem do_swap {ps : PSta} {nx v : Int} {l : List Int} {k : Nat} (h : ps.ws = nx :: l) (hk : k < ps.ac.length) :
    tellS ps k 3 0 = nx ∧ (doS ps k 3 0 0 v).ws = v :: l ∧ (doS ps k 3 0 0 v).ac.length = ps.ac.length ∧ (doS ps k 3 0 0 v).D.length = ps.D.length + 1 := by
  have ho : okS ps k 3 0 = true := by simp [okS, okT, h]; omega
  refine ⟨?_, ?_, ?_, ?_⟩
  · unfold tellS; rw [ho]; simp [tellI, loadI, h]
  · unfold doS; rw [ho]; simp [doL, storeL, h]
  · unfold doS; rw [ho]; simp [touchS, bump_len]
  · unfold doS; rw [ho]; simp [touchS]
theorem do_load {ps : PSta} {l : List Int} {k i : Nat} {a : Int} (h : ps.ws = l) (hk : k < ps.ac.length) (ha : a = ((i : Nat) : Int)) (hi : i < l.length) :
    tellS ps k 1 a = l.getD i 0 ∧ (doS ps k 1 a 0 0).ws = l ∧ (doS ps k 1 a 0 0).ac.length = ps.ac.length ∧ (doS ps k 1 a 0 0).D.length = ps.D.length + 1 := by
  subst ha h
  have ho : okS ps k 1 (i : Int) = true := by simp [okS, okT]; omega
  refine ⟨?_, ?_, ?_, ?_⟩
  · unfold tellS; rw [ho]; simp [tellI, loadI]
  · unfold doS; rw [ho]; simp [doL]
  · unfold doS; rw [ho]; simp [touchS, bump_len]
  · unfold doS; rw [ho]; simp [touchS]
theorem do_store {ps : PSta} {l : List Int} {k i : Nat} {a v : Int} (h : ps.ws = l) (hk : k < ps.ac.length) (ha : a = ((i : Nat) : Int)) (hi : i < l.length) :
    (doS ps k 2 a 0 v).ws = l.set i v ∧ (doS ps k 2 a 0 v).ac.length = ps.ac.length ∧ (doS ps k 2 a 0 v).D.length = ps.D.length + 1 := by
  subst ha h
  have ho : okS ps k 2 (i : Int) = true := by simp [okS, okT]; omega
  refine ⟨?_, ?_, ?_⟩
  · unfold doS; rw [ho]; simp [doL, storeL]
  · unfold doS; rw [ho]; simp [touchS, bump_len]
  · unfold doS; rw [ho]; simp [touchS]

theorem fin_none {s : SS} {k : Nat} {ev : Int} (h : behindI (s.st k) ev = none) : s.fin k ev = s := by
  unfold SS.fin endO
  split
  · rename_i y hy
    split at hy
    · rw [Int.toNat_natCast, h] at hy; cases hy
    · cases hy
  · rfl
theorem fin_some {s : SS} {k : Nat} {ev y : Int} (hk : k < s.n) (h : behindI (s.st k) ev = some y) : s.fin k ev = s.set k y 0 := by
  have e : endO s k ev = some y := by unfold endO; rw [if_pos (by omega), Int.toNat_natCast, h]
  unfold SS.fin
  rw [e, Int.toNat_natCast]

/-! ### the chain of nodes -/
/-- each one's node ahead is the node of the one before it; the first one's is e -/
def Chain (node ahd : Nat → Int) : Int → List Nat → Prop
  | _, [] => True
  | e, k :: r => ahd k = e ∧ Chain node ahd (node k) r
/-- the last one's node -/
def endN (node : Nat → Int) : Int → List Nat → Int
  | e, [] => e
  | _, k :: r => endN node (node k) r
theorem endN_more (node : Nat → Int) (e : Int) (Q : List Nat) (k : Nat) : endN node e (Q ++ [k]) = node k := by
  induction Q generalizing e with
  | nil => rfl
  | cons a r ih => exact ih _
theorem chain_more {node ahd : Nat → Int} {e : Int} {Q : List Nat} {k : Nat} (h : Chain node ahd e Q) (hk : ahd k = endN node e Q) : Chain node ahd e (Q ++ [k]) := by
  induction Q generalizing e with
  | nil => exact ⟨hk, trivial⟩
  | cons a r ih => exact ⟨h.1, ih h.2 hk⟩
theorem chain_same {node node' ahd ahd' : Nat → Int} {e : Int} {Q : List Nat} (h : Chain node ahd e Q) (hs : ∀ j ∈ Q, node' j = node j ∧ ahd' j = ahd j) : Chain node' ahd' e Q := by
  induction Q generalizing e with
  | nil => trivial
  | cons a r ih =>
    have ha := hs a List.mem_cons_self
    refine ⟨ha.2.trans h.1, ?_⟩
    rw [ha.1]
    exact ih h.2 fun j hj => hs j (List.mem_cons_of_mem _ hj)
theorem endN_same {node node' : Nat → Int} {Q : List Nat} (hs : ∀ j ∈ Q, node' j = node j) (e : Int) : endN node' e Q = endN node e Q := by
  induction Q generalizing e with
  | nil => rfl
  | cons a r ih =>
    show endN node' (node' a) r = endN node (node a) r
    rw [hs a List.mem_cons_self]
    exact ih (fun j hj => hs j (List.mem_cons_of_mem _ hj)) _
theorem chain_at {node ahd : Nat → Int} {e : Int} {Q : List Nat} (h : Chain node ahd e Q) {k : Nat} (hk : k ∈ Q) : (∃ r, Q = k :: r ∧ ahd k = e) ∨ ∃ j ∈ Q, ahd k = node j := by
  induction Q generalizing e with
  | nil => cases hk
  | cons a r ih =>
    rcases List.mem_cons.1 hk with rfl | hk
    · exact .inl ⟨r, rfl, h.1⟩
    · rcases ih h.2 hk with ⟨r', rfl, he⟩ | ⟨j, hj, he⟩
      · exact .inr ⟨a, List.mem_cons_self, he⟩
      · exact .inr ⟨j, List.mem_cons_of_mem _ hj, he⟩

/-! ### the queue -/
structure OrdJ (f : FL) (g : Option Nat) (W : List Nat) (e : Int) : Prop where
  n8 : f.s.n ≤ 64
  rng : ∀ j, j < f.s.n → 0 ≤ f.node j ∧ f.node j ≤ f.s.n
  erng : 0 ≤ e ∧ e ≤ f.s.n
  inj : ∀ j k, j < f.s.n → k < f.s.n → f.node j = f.node k → j = k
  ne : ∀ j, j < f.s.n → f.node j ≠ e
  ws : ∃ fl : List Int, f.ps.ws = endN f.node e (g.toList ++ W) :: fl ∧ fl.length = f.s.n + 1 ∧ (∀ j, j < f.s.n → fl.getD (f.node j).toNat 0 = if f.pc j = 0 then 0 else 1) ∧ fl.getD e.toNat 0 = 0
  ac : f.ps.ac.length = f.s.n
  nodup : (g.toList ++ W).Nodup
  lt : ∀ k ∈ g.toList ++ W, k < f.s.n
  pc2 : ∀ j, j < f.s.n → (f.pc j = 2 ↔ j ∈ g.toList ++ W)
  prg : ∀ j, f.pc j = 0 ∨ f.pc j = 1 ∨ f.pc j = 2
  pc1 : ∀ j, j < f.s.n → f.pc j = 1 → f.s.st j = 1
  ch : Chain f.node f.ahd e (g.toList ++ W)
  stg : ∀ k, g = some k → f.s.st k = 2 ∨ f.s.st k = 3 ∨ f.s.st k = 4
  stw : ∀ k ∈ W, f.s.st k = 1
  sto : ∀ k, k < f.s.n → k ∉ g.toList ++ W → f.s.st k = 0 ∨ f.s.st k = 1
namespace OrdJ
variable {f : FL} {g : Option Nat} {W : List Nat} {e : Int} {L : Lp}
theorem len (h : OrdJ f g W e) : (g.toList ++ W).length ≤ f.s.n := by
  have h1 : (g.toList ++ W).length ≤ (List.range f.s.n).length := List.Nodup.length_le_of_subset h.nodup fun k hk => List.mem_range.2 (h.lt k hk)
  rw [List.length_range] at h1
  exact h1
/-- of whom is what: by what a context does -/
theorem held (h : OrdJ f g W e) {k : Nat} (hk : k < f.s.n) (hs : f.s.st k = 2 ∨ f.s.st k = 3 ∨ f.s.st k = 4) : g = some k := by
  by_cases hm : k ∈ g.toList ++ W
  · rcases List.mem_append.1 hm with hm | hm
    · simpa using hm
    · have := h.stw k hm; omega
  · have := h.sto k hk hm; omega
theorem idle (h : OrdJ f g W e) {k : Nat} (hk : k < f.s.n) (hs : f.s.st k = 0) : k ∉ g.toList ++ W := fun hm => by
  rcases List.mem_append.1 hm with hm | hm
  · have := h.stg k (by simpa using hm); omega
  · have := h.stw k hm; omega
theorem idle_pc (h : OrdJ f g W e) {k : Nat} (hk : k < f.s.n) (hs : f.s.st k = 0) : f.pc k = 0 := by
  rcases h.prg k with q | q | q
  · exact q
  · have := h.pc1 k hk q; omega
  · exact absurd ((h.pc2 k hk).1 q) (h.idle hk hs)
/-- what a context does becomes something that its place allows -/
theorem stS (h : OrdJ f g W e) (k : Nat) (x d : Int) (h0 : k ∉ g.toList ++ W → x = 0 ∨ x = 1) (h1 : k ∈ W → x = 1) (h2 : g = some k → x = 2 ∨ x = 3 ∨ x = 4) (h3 : f.pc k = 1 → x = 1) : OrdJ { f with s := f.s.set k x d } g W e := by
  refine ⟨h.n8, h.rng, h.erng, h.inj, h.ne, h.ws, h.ac, h.nodup, h.lt, h.pc2, h.prg, fun j hj hp => ?_, h.ch, fun j hj => ?_, fun j hj => ?_, fun j hj hn => ?_⟩
  · show upd f.s.st k x j = 1
    by_cases q : j = k
    · subst q; rw [upd_same]; exact h3 hp
    · rw [upd_other _ _ q]; exact h.pc1 j hj hp
  · show upd f.s.st k x j = 2 ∨ upd f.s.st k x j = 3 ∨ upd f.s.st k x j = 4
    by_cases q : j = k
    · subst q; rw [upd_same]; exact h2 hj
    · rw [upd_other _ _ q]; exact h.stg j hj
  · show upd f.s.st k x j = 1
    by_cases q : j = k
    · subst q; rw [upd_same]; exact h1 hj
    · rw [upd_other _ _ q]; exact h.stw j hj
  · show upd f.s.st k x j = 0 ∨ upd f.s.st k x j = 1
    by_cases q : j = k
    · subst q; rw [upd_same]; exact h0 hn
    · rw [upd_other _ _ q]; exact h.sto j hj hn
theorem lock (h : OrdJ f g W e) (t d : Int) : OrdJ (f.lock t d) g W e := by
  unfold FL.lock SS.lock
  split
  · rename_i he
    unfold lockE at he
    split at he
    · rename_i hc
      split at he
      · rename_i hs
        have hk : t.toNat < f.s.n := by omega
        have hn := h.idle hk hs
        exact h.stS _ _ _ (fun _ => .inr rfl) (fun _ => rfl) (fun e => absurd (List.mem_append_left W (by rw [e]; simp)) hn) fun _ => rfl
      · omega
    · omega
  · exact h
theorem turn (h : OrdJ f g W e) (t x : Int) (hx : x = 3 ∨ x = 4) : OrdJ (f.turn t x) g W e := by
  unfold FL.turn SS.turn
  split
  · rename_i he
    unfold turnE at he
    split at he
    · rename_i hc
      split at he
      · omega
      · split at he
        · rename_i hs
          have hk : t.toNat < f.s.n := by omega
          have hg := h.held hk (.inl hs)
          refine h.stS _ _ _ (fun hn => absurd (List.mem_append_left W (by rw [hg]; simp)) hn) (fun hw => ?_) (fun _ => .inr hx) fun hp => ?_
          · have := h.stw _ hw
            omega
          · have := h.pc1 _ hk hp
            omega
        · omega
    · omega
  · exact h
theorem probe (h : OrdJ f g W e) (t : Int) : OrdJ (f.probe t) g W e := by
  unfold FL.probe SS.probe
  split
  · exact h.turn t 4 (.inr rfl)
  · exact h
/-- the port's state turns, the words stay -/
theorem psS (h : OrdJ f g W e) {ps : PSta} (hw : ps.ws = f.ps.ws) (ha : ps.ac.length = f.ps.ac.length) : OrdJ { f with ps := ps } g W e :=
  ⟨h.n8, h.rng, h.erng, h.inj, h.ne, by obtain ⟨fl, a⟩ := h.ws; exact ⟨fl, by rw [hw]; exact a.1, a.2⟩, ha.trans h.ac, h.nodup, h.lt, h.pc2, h.prg, h.pc1, h.ch, h.stg, h.stw, h.sto⟩
/-- where its node's flag lies -/
theorem flagN (h : OrdJ f g W e) {k : Nat} (hk : k < f.s.n) : ∃ x : Nat, f.node k = (x : Int) ∧ x < f.s.n + 1 := by
  have := h.rng k hk
  exact ⟨(f.node k).toNat, by omega, by omega⟩
theorem flagE (h : OrdJ f g W e) : ∃ x : Nat, e = (x : Int) ∧ x < f.s.n + 1 := by
  have := h.erng
  exact ⟨e.toNat, by omega, by omega⟩

/-- its flag is set -/
theorem flag (h : OrdJ f g W e) {k : Nat} (hk : k < f.s.n) (hs : f.s.st k = 1) (hp : f.pc k = 0) {ps : PSta} (hw : ps.ws = f.ps.ws.set ((f.node k).toNat + 1) 1) (ha : ps.ac.length = f.ps.ac.length) : OrdJ { f with pc := upd f.pc k 1, ps := ps } g W e := by
  have hn : k ∉ g.toList ++ W := fun q => by have := (h.pc2 k hk).2 q; omega
  obtain ⟨fl, w1, w2, w3, w4⟩ := h.ws
  obtain ⟨x, hx, hx1⟩ := h.flagN hk
  refine ⟨h.n8, h.rng, h.erng, h.inj, h.ne, ⟨fl.set x 1, ?_, by simpa using w2, fun j hj => ?_, ?_⟩, ha.trans h.ac, h.nodup, h.lt, fun j hj => ?_, fun j => ?_, fun j hj hq => ?_, h.ch, h.stg, h.stw, h.sto⟩
  · show ps.ws = _
    rw [hw, w1, hx]
    rfl
  · show (fl.set x 1).getD (f.node j).toNat 0 = if upd f.pc k 1 j = 0 then 0 else 1
    by_cases q : j = k
    · subst q
      rw [upd_same, hx, Int.toNat_natCast, if_neg (by decide)]
      simp [w2, hx1]
    · have hne : x ≠ (f.node j).toNat := fun q2 => q (h.inj j k hj hk (by have := h.rng j hj; omega))
      rw [upd_other _ _ q, ← w3 j hj]
      simp [hne]
  · have hne : x ≠ e.toNat := fun q => h.ne k hk (by have := h.erng; omega)
    rw [List.getD_eq_getElem?_getD, List.getElem?_set, if_neg hne, ← List.getD_eq_getElem?_getD]
    exact w4
  · show upd f.pc k 1 j = 2 ↔ _
    by_cases q : j = k
    · subst q; rw [upd_same]; exact ⟨fun q => by omega, fun q => absurd q hn⟩
    · rw [upd_other _ _ q]; exact h.pc2 j hj
  · show upd f.pc k 1 j = 0 ∨ upd f.pc k 1 j = 1 ∨ upd f.pc k 1 j = 2
    by_cases q : j = k
    · subst q; rw [upd_same]; exact .inr (.inl rfl)
    · rw [upd_other _ _ q]; exact h.prg j
  · by_cases q : j = k
    · subst q; exact hs
    · have hq : upd f.pc k 1 j = 1 := hq
      rw [upd_other _ _ q] at hq
      exact h.pc1 j hj hq
/-- it swaps its node into tail -/
theorem enq (h : OrdJ f g W e) {k : Nat} (hk : k < f.s.n) (hs : f.s.st k = 1) (hp : f.pc k = 1) {fl : List Int} (hf : f.ps.ws = endN f.node e (g.toList ++ W) :: fl) {ps : PSta} (hw : ps.ws = f.node k :: fl) (ha : ps.ac.length = f.ps.ac.length) :
    OrdJ { f with pc := upd f.pc k 2, ahd := upd f.ahd k (endN f.node e (g.toList ++ W)), ps := ps } g (W ++ [k]) e := by
  have hn : k ∉ g.toList ++ W := fun q => by have := (h.pc2 k hk).2 q; omega
  obtain ⟨fl', w1, w2, w3, w4⟩ := h.ws
  rw [hf] at w1
  obtain rfl : fl = fl' := (List.cons.inj w1).2
  refine ⟨h.n8, h.rng, h.erng, h.inj, h.ne, ⟨fl, ?_, w2, fun j hj => ?_, w4⟩, ha.trans h.ac, ?_, ?_, ?_, ?_, ?_, ?_, h.stg, ?_, ?_⟩
  · show ps.ws = endN f.node e (g.toList ++ (W ++ [k])) :: fl
    rw [← List.append_assoc, endN_more, hw]
  · show fl.getD (f.node j).toNat 0 = if upd f.pc k 2 j = 0 then 0 else 1
    rw [w3 j hj]
    by_cases q : j = k
    · subst q; rw [upd_same, hp, if_neg (by decide), if_neg (by decide)]
    · rw [upd_other _ _ q]
  · rw [← List.append_assoc, List.nodup_append]
    exact ⟨h.nodup, by simp, fun a h1 b h2 q => by rw [List.mem_singleton] at h2; subst q; subst h2; exact hn h1⟩
  · intro j hj
    rw [← List.append_assoc, List.mem_append, List.mem_singleton] at hj
    rcases hj with hj | rfl
    · exact h.lt j hj
    · exact hk
  · intro j hj
    show upd f.pc k 2 j = 2 ↔ _
    rw [← List.append_assoc, List.mem_append, List.mem_singleton]
    by_cases q : j = k
    · subst q; rw [upd_same]; simp
    · rw [upd_other _ _ q, h.pc2 j hj]; simp [q]
  · intro j
    show upd f.pc k 2 j = 0 ∨ upd f.pc k 2 j = 1 ∨ upd f.pc k 2 j = 2
    by_cases q : j = k
    · subst q; rw [upd_same]; exact .inr (.inr rfl)
    · rw [upd_other _ _ q]; exact h.prg j
  · intro j hj hq
    by_cases q : j = k
    · subst q; exact hs
    · have hq : upd f.pc k 2 j = 1 := hq
      rw [upd_other _ _ q] at hq
      exact h.pc1 j hj hq
  · show Chain f.node (upd f.ahd k _) e (g.toList ++ (W ++ [k]))
    rw [← List.append_assoc]
    exact chain_more (chain_same h.ch fun j hj => ⟨rfl, upd_other _ _ fun q => by subst q; exact hn hj⟩) (upd_same _ _ _)
  · intro j hj
    rw [List.mem_append, List.mem_singleton] at hj
    rcases hj with hj | rfl
    · exact h.stw j hj
    · exact hs
  · intro j hj hnj
    rw [← List.append_assoc, List.mem_append, not_or] at hnj
    exact h.sto j hj hnj.1
theorem waits (h : OrdJ f g W e) {k : Nat} (hk : k < f.s.n) (hs : f.s.st k = 1) (hp : f.pc k = 2) : k ∈ W := by
  rcases List.mem_append.1 ((h.pc2 k hk).1 hp) with hm | hm
  · have := h.stg k (by simpa using hm); omega
  · exact hm
/-- whoever waits looks at the one before it, or is the first -/
theorem looks (h : OrdJ f g W e) {k : Nat} (hm : k ∈ W) : (g = none ∧ ∃ W', W = k :: W' ∧ f.ahd k = e) ∨ ∃ j, j < f.s.n ∧ f.pc j = 2 ∧ f.ahd k = f.node j := by
  rcases chain_at h.ch (List.mem_append_right _ hm) with ⟨r, hr, he⟩ | ⟨j, hj, he⟩
  · cases g with
    | none => exact .inl ⟨rfl, r, hr, he⟩
    | some a =>
      obtain rfl : a = k := (List.cons.inj hr).1
      exact absurd hm (List.nodup_cons.1 h.nodup).1
  · have hl := h.lt j hj
    exact .inr ⟨j, hl, (h.pc2 j hl).2 hj, he⟩
theorem grant {k : Nat} (h : OrdJ f none (k :: W) e) {ps : PSta} (hw : ps.ws = f.ps.ws) (ha : ps.ac.length = f.ps.ac.length) (d : Int) :
    OrdJ { f with s := f.s.set k 2 d, ps := ps } (some k) W e := by
  refine ⟨h.n8, h.rng, h.erng, h.inj, h.ne, by obtain ⟨fl, a⟩ := h.ws; exact ⟨fl, by rw [hw]; exact a.1, a.2⟩, ha.trans h.ac, h.nodup, h.lt, h.pc2, h.prg, fun j hj hp => ?_, h.ch, fun j hj => ?_, fun j hj => ?_, fun j hj hn => ?_⟩
  · show upd f.s.st k 2 j = 1
    have hkm := (h.pc2 k (h.lt k List.mem_cons_self)).2 List.mem_cons_self
    rw [upd_other _ _ (fun q => by subst q; have hp : f.pc j = 1 := hp; omega)]
    exact h.pc1 j hj hp
  · obtain rfl : k = j := by simpa using hj
    exact .inl (upd_same _ _ _)
  · show upd f.s.st k 2 j = 1
    rw [upd_other _ _ (fun q => by subst q; exact (List.nodup_cons.1 h.nodup).1 hj)]
    exact h.stw j (List.mem_cons_of_mem _ hj)
  · show upd f.s.st k 2 j = 0 ∨ upd f.s.st k 2 j = 1
    rw [upd_other _ _ (fun q => by subst q; exact hn (by simp))]
    exact h.sto j hj hn
/-- the lock is given back: its node is the one that was ahead -/
theorem free {k : Nat} (h : OrdJ f (some k) W e) {ps : PSta} (hw : ps.ws = f.ps.ws.set ((f.node k).toNat + 1) 0) (ha : ps.ac.length = f.ps.ac.length) (d : Int) :
    OrdJ { f with s := f.s.set k 0 d, pc := upd f.pc k 0, node := upd f.node k (f.ahd k), ahd := upd f.ahd k 0, ps := ps } none W (f.node k) := by
  have hnW : k ∉ W := (List.nodup_cons.1 h.nodup).1
  have hk : k < f.s.n := h.lt k List.mem_cons_self
  have hae : f.ahd k = e := h.ch.1
  obtain ⟨fl, w1, w2, w3, w4⟩ := h.ws
  obtain ⟨x, hx, hx1⟩ := h.flagN hk
  have hxe : x ≠ e.toNat := fun q => h.ne k hk (by have := h.erng; omega)
  rw [hae]
  refine ⟨h.n8, fun j hj => ?_, h.rng k hk, fun j i hj hi hq => ?_, fun j hj => ?_, ⟨fl.set x 0, ?_, by rw [List.length_set]; exact w2, fun j hj => ?_, ?_⟩, ha.trans h.ac, (List.nodup_cons.1 h.nodup).2, fun j hj => h.lt j (List.mem_append_right _ hj), fun j hj => ?_, fun j => ?_, fun j hj hq => ?_, ?_, fun j hj => (by cases hj), fun j hj => ?_, fun j hj hn => ?_⟩
  · show 0 ≤ upd f.node k e j ∧ upd f.node k e j ≤ _
    by_cases q : j = k
    · subst q; rw [upd_same]; exact h.erng
    · rw [upd_other _ _ q]; exact h.rng j hj
  · replace hq : upd f.node k e j = upd f.node k e i := hq
    by_cases q : j = k
    · by_cases q2 : i = k
      · rw [q, q2]
      · subst q; rw [upd_same, upd_other _ _ q2] at hq; exact absurd hq.symm (h.ne i hi)
    · by_cases q2 : i = k
      · subst q2; rw [upd_same, upd_other _ _ q] at hq; exact absurd hq (h.ne j hj)
      · rw [upd_other _ _ q, upd_other _ _ q2] at hq; exact h.inj j i hj hi hq
  · show upd f.node k e j ≠ f.node k
    by_cases q : j = k
    · subst q; rw [upd_same]; exact fun q => h.ne j hj q.symm
    · rw [upd_other _ _ q]; exact fun q2 => q (h.inj j k hj hk q2)
  · show ps.ws = endN (upd f.node k e) (f.node k) W :: fl.set x 0
    rw [hw, w1, hx, endN_same (fun j hj => upd_other _ _ fun q => by subst q; exact hnW hj)]
    show _ :: fl.set (Int.toNat (x : Int)) 0 = _
    rw [Int.toNat_natCast, ← hx]
    rfl
  · show (fl.set x 0).getD (upd f.node k e j).toNat 0 = if upd f.pc k 0 j = 0 then 0 else 1
    by_cases q : j = k
    · subst q
      rw [upd_same, upd_same, if_pos rfl, List.getD_eq_getElem?_getD, List.getElem?_set, if_neg hxe, ← List.getD_eq_getElem?_getD]
      exact w4
    · have hne : x ≠ (f.node j).toNat := fun q2 => q (h.inj j k hj hk (by have := h.rng j hj; omega))
      rw [upd_other _ _ q, upd_other _ _ q, ← w3 j hj]
      simp [hne]
  · show (fl.set x 0).getD (f.node k).toNat 0 = 0
    rw [hx, Int.toNat_natCast]
    simp [w2, hx1]
  · show upd f.pc k 0 j = 2 ↔ _
    by_cases q : j = k
    · subst q; rw [upd_same]; simp [hnW]
    · rw [upd_other _ _ q, h.pc2 j hj]; simp [q]
  · show upd f.pc k 0 j = 0 ∨ upd f.pc k 0 j = 1 ∨ upd f.pc k 0 j = 2
    by_cases q : j = k
    · subst q; rw [upd_same]; exact .inl rfl
    · rw [upd_other _ _ q]; exact h.prg j
  · replace hq : upd f.pc k 0 j = 1 := hq
    show upd f.s.st k 0 j = 1
    by_cases q : j = k
    · subst q; rw [upd_same] at hq; omega
    · rw [upd_other _ _ q] at hq ⊢; exact h.pc1 j hj hq
  · exact chain_same h.ch.2 fun j hj => ⟨upd_other _ _ fun q => by subst q; exact hnW hj, upd_other _ _ fun q => by subst q; exact hnW hj⟩
  · show upd f.s.st k 0 j = 1
    rw [upd_other _ _ (fun q => by subst q; exact hnW hj)]
    exact h.stw j hj
  · show upd f.s.st k 0 j = 0 ∨ upd f.s.st k 0 j = 1
    by_cases q : j = k
    · subst q; rw [upd_same]; exact .inl rfl
    · rw [upd_other _ _ q]
      exact h.sto j hj (by simpa [q] using hn)

/-! ### a step, by what a context does -/
theorem at_none {t : Int} (hk : ¬ ((0 : Int) ≤ t ∧ t < f.s.n)) : f.did L t t = Dd.no ∧ f.step L t t = f := by
  have e : f.did L t t = Dd.no := by unfold FL.did; rw [if_neg hk]
  have em : f.mid L t t = f := by unfold FL.mid; rw [if_neg hk]
  refine ⟨e, ?_⟩
  have e0 : f.s.fin t Dd.no.ev = f.s := by
    have e0 : endO f.s t Dd.no.ev = none := by unfold endO; rw [if_neg hk]
    unfold SS.fin
    rw [e0]
  unfold FL.step
  rw [e, em, e0]
theorem fin_no (s : SS) (t : Nat) : s.fin t Dd.no.ev = s := fin_none (by
  unfold behindI
  rw [if_neg (fun q => absurd q.2 (by decide)), if_neg (fun q => q.2.elim (fun q => absurd q (by decide)) fun q => absurd q (by decide)), if_neg (fun q => absurd q.2 (by decide)), if_neg (fun q => q.2.elim (fun q => absurd q (by decide)) fun q => absurd q (by decide))])
theorem at_idle {k : Nat} (hk : k < f.s.n) (s1 : f.s.st k ≠ 1) (s3 : f.s.st k ≠ 3) (s4 : f.s.st k ≠ 4) : f.did L k k = Dd.no ∧ f.step L k k = f := by
  have ht : (0 : Int) ≤ (k : Int) ∧ (k : Int) < f.s.n := by omega
  have e : f.did L k k = Dd.no := by unfold FL.did; rw [if_pos ht, Int.toNat_natCast, if_neg s1, if_neg s3, if_neg s4]
  have em : f.mid L k k = f := by unfold FL.mid; rw [if_pos ht, Int.toNat_natCast, if_neg s1, if_neg s3, if_neg s4]
  refine ⟨e, ?_⟩
  unfold FL.step
  rw [e, em, fin_no]
/-- it stores its flag -/
theorem at_flag (h : OrdJ f g W e) (h2 : L.a2 = 1) {k : Nat} (hk : k < f.s.n) (s1 : f.s.st k = 1) (hd : f.pc k = 0) :
    f.did L k k = Dd.no ∧ f.step L k k = { f with pc := upd f.pc k 1, ps := doS f.ps k 2 (L.a2 + f.node k) 0 1 } ∧ (doS f.ps k 2 (L.a2 + f.node k) 0 1).ws = f.ps.ws.set ((f.node k).toNat + 1) 1 ∧ (doS f.ps k 2 (L.a2 + f.node k) 0 1).ac.length = f.ps.ac.length ∧ (doS f.ps k 2 (L.a2 + f.node k) 0 1).D.length = f.ps.D.length + 1 := by
  have ht : (0 : Int) ≤ (k : Int) ∧ (k : Int) < f.s.n := by omega
  obtain ⟨x, hx, hx1⟩ := h.flagN hk
  obtain ⟨fl, w1, w2, _⟩ := h.ws
  obtain ⟨b, c, d⟩ := do_store (a := L.a2 + f.node k) (i := x + 1) (v := 1) rfl (show k < f.ps.ac.length by rw [h.ac]; exact hk) (by rw [h2, hx]; omega) (by rw [w1, List.length_cons, w2]; omega)
  have e : f.did L k k = Dd.no := by unfold FL.did FL.acqD; rw [if_pos ht, Int.toNat_natCast, if_pos s1, if_pos hd]
  have em : f.mid L k k = { f with pc := upd f.pc k 1, ps := doS f.ps k 2 (L.a2 + f.node k) 0 1 } := by unfold FL.mid FL.acq; rw [if_pos ht, Int.toNat_natCast, if_pos s1, if_pos hd]
  refine ⟨e, ?_, ?_, c, d⟩
  · unfold FL.step
    rw [e, em, fin_no]
  · rw [b, hx, Int.toNat_natCast]
/-- it swaps -/
theorem at_swap (h : OrdJ f g W e) (h1 : L.a1 = 0) {k : Nat} (hk : k < f.s.n) (s1 : f.s.st k = 1) (hd : f.pc k = 1) {fl : List Int} (hf : f.ps.ws = endN f.node e (g.toList ++ W) :: fl) :
    f.did L k k = ⟨0, true, false, false⟩ ∧ f.step L k k = { f with pc := upd f.pc k 2, ahd := upd f.ahd k (endN f.node e (g.toList ++ W)), ps := doS f.ps k 3 0 0 (f.node k) } ∧ (doS f.ps k 3 0 0 (f.node k)).ws = f.node k :: fl ∧ (doS f.ps k 3 0 0 (f.node k)).ac.length = f.ps.ac.length ∧ (doS f.ps k 3 0 0 (f.node k)).D.length = f.ps.D.length + 1 := by
  have ht : (0 : Int) ≤ (k : Int) ∧ (k : Int) < f.s.n := by omega
  obtain ⟨a, b, c, d⟩ := do_swap (v := f.node k) hf (show k < f.ps.ac.length by rw [h.ac]; exact hk)
  have e : f.did L k k = ⟨0, true, false, false⟩ := by unfold FL.did FL.acqD; rw [if_pos ht, Int.toNat_natCast, if_pos s1, if_neg (by omega), if_pos hd]
  refine ⟨e, ?_, b, c, d⟩
  unfold FL.step
  rw [e, fin_none (by rw [s1]; rfl)]
  unfold FL.mid FL.acq
  rw [if_pos ht, Int.toNat_natCast, if_pos s1, if_neg (by omega), if_pos hd, h1, a]
/-- the first one takes the lock -/
theorem at_take {k : Nat} (h : OrdJ f none (k :: W) e) (h2 : L.a2 = 1) (hk : k < f.s.n) (s1 : f.s.st k = 1) :
    f.did L k k = ⟨1, false, false, false⟩ ∧ f.step L k k = { f with s := f.s.set k 2 0, ps := doS f.ps k 1 (L.a2 + f.ahd k) 0 0 } ∧ (doS f.ps k 1 (L.a2 + f.ahd k) 0 0).ws = f.ps.ws ∧ (doS f.ps k 1 (L.a2 + f.ahd k) 0 0).ac.length = f.ps.ac.length ∧ (doS f.ps k 1 (L.a2 + f.ahd k) 0 0).D.length = f.ps.D.length + 1 := by
  have ht : (0 : Int) ≤ (k : Int) ∧ (k : Int) < f.s.n := by omega
  have hd : f.pc k = 2 := (h.pc2 k hk).2 List.mem_cons_self
  have hae : f.ahd k = e := h.ch.1
  obtain ⟨x, hx, hx1⟩ := h.flagE
  obtain ⟨fl, w1, w2, _, w4⟩ := h.ws
  obtain ⟨a, b, c, d⟩ := do_load (a := L.a2 + f.ahd k) (i := x + 1) rfl (show k < f.ps.ac.length by rw [h.ac]; exact hk) (by rw [h2, hae, hx]; omega) (by rw [w1, List.length_cons, w2]; omega)
  have a0 : tellS f.ps k 1 (L.a2 + f.ahd k) = 0 := by
    rw [a, w1, List.getD_cons_succ]
    rw [hx, Int.toNat_natCast] at w4
    exact w4
  have e : f.did L k k = ⟨1, false, false, false⟩ := by unfold FL.did FL.acqD; rw [if_pos ht, Int.toNat_natCast, if_pos s1, if_neg (by omega), if_neg (by omega), if_pos a0]
  refine ⟨e, ?_, b, c, d⟩
  unfold FL.step
  rw [e, fin_some hk (by rw [s1]; rfl : behindI (f.s.st k) 1 = some 2)]
  unfold FL.mid FL.acq
  rw [if_pos ht, Int.toNat_natCast, if_pos s1, if_neg (by omega), if_neg (by omega)]
/-- another one waits -/
theorem at_wait (h : OrdJ f g W e) (h2 : L.a2 = 1) {k j : Nat} (hk : k < f.s.n) (s1 : f.s.st k = 1) (hd : f.pc k = 2) (hj : j < f.s.n) (pj : f.pc j = 2) (ha : f.ahd k = f.node j) :
    f.did L k k = Dd.no ∧ f.step L k k = { f with ps := doS f.ps k 1 (L.a2 + f.ahd k) 0 0 } ∧ (doS f.ps k 1 (L.a2 + f.ahd k) 0 0).ws = f.ps.ws ∧ (doS f.ps k 1 (L.a2 + f.ahd k) 0 0).ac.length = f.ps.ac.length ∧ (doS f.ps k 1 (L.a2 + f.ahd k) 0 0).D.length = f.ps.D.length + 1 ∧ f.ps.ws.getD ((f.ahd k).toNat + 1) 0 = 1 := by
  have ht : (0 : Int) ≤ (k : Int) ∧ (k : Int) < f.s.n := by omega
  obtain ⟨x, hx, hx1⟩ := h.flagN hj
  obtain ⟨fl, w1, w2, w3, w4⟩ := h.ws
  obtain ⟨a, b, c, d⟩ := do_load (a := L.a2 + f.ahd k) (i := x + 1) rfl (show k < f.ps.ac.length by rw [h.ac]; exact hk) (by rw [h2, ha, hx]; omega) (by rw [w1, List.length_cons, w2]; omega)
  have hfl : fl.getD x 0 = 1 := by
    have := w3 j hj
    rw [hx, Int.toNat_natCast, pj, if_neg (by decide)] at this
    exact this
  have a0 : tellS f.ps k 1 (L.a2 + f.ahd k) = 1 := by rw [a, w1, List.getD_cons_succ, hfl]
  have e : f.did L k k = Dd.no := by unfold FL.did FL.acqD; rw [if_pos ht, Int.toNat_natCast, if_pos s1, if_neg (by omega), if_neg (by omega), if_neg (by rw [a0]; decide)]
  refine ⟨e, ?_, b, c, d, ?_⟩
  · unfold FL.step
    rw [e, fin_no]
    unfold FL.mid FL.acq
    rw [if_pos ht, Int.toNat_natCast, if_pos s1, if_neg (by omega), if_neg (by omega)]
  · rw [ha, hx, Int.toNat_natCast, w1, List.getD_cons_succ, hfl]
/-- it gives the lock back -/
theorem at_free {k : Nat} (h : OrdJ f (some k) W e) (h2 : L.a2 = 1) (hk : k < f.s.n) (s3 : f.s.st k = 3) :
    f.did L k k = ⟨3, false, false, false⟩ ∧ f.step L k k = { f with s := f.s.set k 0 0, pc := upd f.pc k 0, node := upd f.node k (f.ahd k), ahd := upd f.ahd k 0, ps := doS f.ps k 2 (L.a2 + f.node k) 0 0 } ∧ (doS f.ps k 2 (L.a2 + f.node k) 0 0).ws = f.ps.ws.set ((f.node k).toNat + 1) 0 ∧ (doS f.ps k 2 (L.a2 + f.node k) 0 0).ac.length = f.ps.ac.length ∧ (doS f.ps k 2 (L.a2 + f.node k) 0 0).D.length = f.ps.D.length + 1 := by
  have ht : (0 : Int) ≤ (k : Int) ∧ (k : Int) < f.s.n := by omega
  obtain ⟨x, hx, hx1⟩ := h.flagN hk
  obtain ⟨fl, w1, w2, _⟩ := h.ws
  obtain ⟨b, c, d⟩ := do_store (a := L.a2 + f.node k) (i := x + 1) (v := 0) rfl (show k < f.ps.ac.length by rw [h.ac]; exact hk) (by rw [h2, hx]; omega) (by rw [w1, List.length_cons, w2]; omega)
  have e : f.did L k k = ⟨3, false, false, false⟩ := by unfold FL.did; rw [if_pos ht, Int.toNat_natCast, if_neg (by omega), if_pos s3]
  refine ⟨e, ?_, ?_, c, d⟩
  · unfold FL.step
    rw [e, fin_some hk (by rw [s3]; rfl : behindI (f.s.st k) 3 = some 0)]
    unfold FL.mid FL.rel
    rw [if_pos ht, Int.toNat_natCast, if_neg (by omega), if_pos s3]
  · rw [b, hx, Int.toNat_natCast]
/-- it asks -/
theorem at_ask (h : OrdJ f g W e) (h1 : L.a1 = 0) {k : Nat} (hk : k < f.s.n) (s4 : f.s.st k = 4) :
    ∃ ev, (ev = 4 ∨ ev = 5) ∧ f.did L k k = ⟨ev, false, false, false⟩ ∧ f.step L k k = { f with s := f.s.set k 2 0, ps := doS f.ps k 1 0 0 0 } ∧ (doS f.ps k 1 0 0 0).ws = f.ps.ws ∧ (doS f.ps k 1 0 0 0).ac.length = f.ps.ac.length ∧ (doS f.ps k 1 0 0 0).D.length = f.ps.D.length + 1 := by
  have ht : (0 : Int) ≤ (k : Int) ∧ (k : Int) < f.s.n := by omega
  obtain ⟨fl, w1, _⟩ := h.ws
  obtain ⟨a, b, c, d⟩ := do_load (a := 0) (i := 0) rfl (show k < f.ps.ac.length by rw [h.ac]; exact hk) rfl (by rw [w1, List.length_cons]; omega)
  have em : f.mid L k k = { f with ps := doS f.ps k 1 0 0 0 } := by
    unfold FL.mid FL.ask
    rw [if_pos ht, Int.toNat_natCast, if_neg (by omega), if_neg (by omega), if_pos s4, h1]
  have key : ∀ ev, ev = 4 ∨ ev = 5 → f.did L k k = ⟨ev, false, false, false⟩ → f.step L k k = { f with s := f.s.set k 2 0, ps := doS f.ps k 1 0 0 0 } := fun ev hev he => by
    unfold FL.step
    rw [he, em, fin_some hk (by rw [s4]; rcases hev with rfl | rfl <;> rfl : behindI (f.s.st k) ev = some 2)]
  by_cases q : tellS f.ps k 1 L.a1 = f.node k
  · have e : f.did L k k = ⟨4, false, false, false⟩ := by unfold FL.did FL.askD; rw [if_pos ht, Int.toNat_natCast, if_neg (by omega), if_neg (by omega), if_pos s4, if_pos q]
    exact ⟨4, .inl rfl, e, key 4 (.inl rfl) e, b, c, d⟩
  · have e : f.did L k k = ⟨5, false, false, false⟩ := by unfold FL.did FL.askD; rw [if_pos ht, Int.toNat_natCast, if_neg (by omega), if_neg (by omega), if_pos s4, if_neg q]
    exact ⟨5, .inr rfl, e, key 5 (.inr rfl) e, b, c, d⟩

/-- a step: what comes of the queue -/
inductive StepQ (W : List Nat) (t : Int) (d : Dd) (W' : List Nat) : Prop where
  | same (h0 : d.enq = false) (h1 : d.ev ≠ 1) (h2 : d.ev ≠ 2) (e : W' = W) : StepQ W t d W'
  | enq (hd : d = ⟨0, true, false, false⟩) (k : Nat) (ht : t = k) (e : W' = W ++ [k]) : StepQ W t d W'
  | grant (hd : d = ⟨1, false, false, false⟩) (k : Nat) (ht : t = k) (e : W = k :: W') (hn : k ∉ W') : StepQ W t d W'
theorem step (h : OrdJ f g W e) (h1 : L.a1 = 0) (h2 : L.a2 = 1) (t : Int) :
    ∃ g' W' e', OrdJ (f.step L t t) g' W' e' ∧ (f.step L t t).ps.D.length ≤ f.ps.D.length + 1 ∧ StepQ W t (f.did L t t) W' := by
  by_cases ht : 0 ≤ t ∧ t < f.s.n
  · obtain ⟨k, rfl⟩ := Int.eq_ofNat_of_zero_le ht.1
    have hk : k < f.s.n := by omega
    by_cases s1 : f.s.st k = 1
    · rcases h.prg k with q | q | q
      · obtain ⟨d1, d2, d3, d4, d5⟩ := h.at_flag h2 hk s1 q
        rw [d1, d2]
        exact ⟨g, W, e, h.flag hk s1 q d3 d4, Nat.le_of_eq d5, .same rfl (by decide) (by decide) rfl⟩
      · obtain ⟨fl, w1, _⟩ := h.ws
        obtain ⟨d1, d2, d3, d4, d5⟩ := h.at_swap h1 hk s1 q w1
        rw [d1, d2]
        exact ⟨g, W ++ [k], e, h.enq hk s1 q w1 d3 d4, Nat.le_of_eq d5, .enq rfl k rfl rfl⟩
      · have hm := h.waits hk s1 q
        rcases h.looks hm with ⟨rfl, W', rfl, _⟩ | ⟨j, hj, pj, ha⟩
        · obtain ⟨d1, d2, d3, d4, d5⟩ := h.at_take h2 hk s1
          rw [d1, d2]
          exact ⟨some k, W', e, h.grant d3 d4 0, Nat.le_of_eq d5, .grant rfl k rfl rfl (List.nodup_cons.1 h.nodup).1⟩
        · obtain ⟨d1, d2, d3, d4, d5, _⟩ := h.at_wait h2 hk s1 q hj pj ha
          rw [d1, d2]
          exact ⟨g, W, e, h.psS d3 d4, Nat.le_of_eq d5, .same rfl (by decide) (by decide) rfl⟩
    · by_cases s3 : f.s.st k = 3
      · obtain rfl := h.held hk (.inr (.inl s3))
        obtain ⟨d1, d2, d3, d4, d5⟩ := h.at_free h2 hk s3
        rw [d1, d2]
        exact ⟨none, W, f.node k, h.free d3 d4 0, Nat.le_of_eq d5, .same rfl (by decide) (by decide) rfl⟩
      · by_cases s4 : f.s.st k = 4
        · have hg := h.held hk (.inr (.inr s4))
          have hm : k ∈ g.toList ++ W := List.mem_append_left W (by rw [hg]; simp)
          have hnW : k ∉ W := fun hw => by have := h.stw k hw; omega
          obtain ⟨ev, hev, d1, d2, d3, d4, d5⟩ := h.at_ask h1 hk s4
          rw [d1, d2]
          refine ⟨g, W, e, (h.psS d3 d4).stS k 2 0 (fun q => absurd hm q) (fun q => absurd q hnW) (fun _ => .inl rfl) (fun hp => ?_), Nat.le_of_eq d5, .same rfl (by rcases hev with rfl | rfl <;> decide) (by rcases hev with rfl | rfl <;> decide) rfl⟩
          have hp : f.pc k = 1 := hp
          have := (h.pc2 k hk).2 hm
          omega
        · obtain ⟨d1, d2⟩ := at_idle (L := L) hk s1 s3 s4
          rw [d1, d2]
          exact ⟨g, W, e, h, Nat.le_succ _, .same rfl (by decide) (by decide) rfl⟩
  · obtain ⟨d1, d2⟩ := at_none (L := L) ht
    rw [d1, d2]
    exact ⟨g, W, e, h, Nat.le_succ _, .same rfl (by decide) (by decide) rfl⟩
end OrdJ

/-! ### what holds of the lock and the law's queue -/
def OrdI (f : FL) (W : List Nat) : Prop := ∃ g e, OrdJ f g W e
namespace OrdI
variable {f : FL} {W : List Nat} {L : Lp}
theorem lock (h : OrdI f W) (t d : Int) : OrdI (f.lock t d) W := by obtain ⟨g, e, h⟩ := h; exact ⟨g, e, h.lock t d⟩
theorem unlock (h : OrdI f W) (t : Int) : OrdI (f.turn t 3) W := by obtain ⟨g, e, h⟩ := h; exact ⟨g, e, h.turn t 3 (.inl rfl)⟩
theorem probe (h : OrdI f W) (t : Int) : OrdI (f.probe t) W := by obtain ⟨g, e, h⟩ := h; exact ⟨g, e, h.probe t⟩
theorem step (h : OrdI f W) (h1 : L.a1 = 0) (h2 : L.a2 = 1) (t : Int) : ∃ W', OrdI (f.step L t t) W' ∧ (f.step L t t).ps.D.length ≤ f.ps.D.length + 1 ∧ OrdJ.StepQ W t (f.did L t t) W' := by
  obtain ⟨g, e, h⟩ := h
  obtain ⟨g', W', e', a, b, c⟩ := h.step h1 h2 t
  exact ⟨W', ⟨g', e', a⟩, b, c⟩
theorem n8 (h : OrdI f W) : f.s.n ≤ 64 := by obtain ⟨g, e, h⟩ := h; exact h.n8
theorem len (h : OrdI f W) : W.length ≤ 64 := by
  obtain ⟨g, e, h⟩ := h
  have := h.len
  have := h.n8
  rw [List.length_append] at *
  omega
theorem one (h : OrdI f W) {j k : Nat} (hj : j < f.s.n) (hk : k < f.s.n) (ej : f.s.st j = 2) (ek : f.s.st k = 2) : j = k := by
  obtain ⟨g, e, h⟩ := h
  have h1 := h.held hj (.inl ej)
  have h2 := h.held hk (.inl ek)
  rw [h1] at h2
  simpa using h2
theorem lenW (h : OrdI f W) : f.ps.ws.length ≤ 4096 := by
  obtain ⟨g, e, h⟩ := h
  obtain ⟨fl, w1, w2, _⟩ := h.ws
  have := h.n8
  rw [w1, List.length_cons, w2]
  omega
/-- what the document says of nodes -/
theorem nodes (h : OrdI f W) : (∀ j, j < f.s.n → 0 ≤ f.node j ∧ f.node j ≤ f.s.n) ∧ (∀ j k, j < f.s.n → k < f.s.n → f.node j = f.node k → j = k) ∧ f.ps.ws.length = f.s.n + 2 ∧ ∀ j, j < f.s.n → f.s.st j = 0 → f.ps.ws.getD ((f.node j).toNat + 1) 0 = 0 := by
  obtain ⟨g, e, h⟩ := h
  obtain ⟨fl, w1, w2, w3, _⟩ := h.ws
  refine ⟨h.rng, h.inj, by rw [w1, List.length_cons, w2], fun j hj s0 => ?_⟩
  rw [w1, List.getD_cons_succ, w3 j hj, if_pos (h.idle_pc hj s0)]
end OrdI
end Go.Proofs.YteokghghpmppnaaGreatDoor.Kc
