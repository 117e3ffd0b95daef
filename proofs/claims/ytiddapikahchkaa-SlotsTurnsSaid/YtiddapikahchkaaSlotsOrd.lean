/- What holds of a lock with slots at all times: slots are drawn in the queue's order, one of them is 1 while nobody holds it; no walk. -/
import Derived.Test.YtiddapikahchkaaSlots
namespace Go.Proofs.Ytiddapikahchkaa
set_option linter.unusedVariables false
set_option maxRecDepth 100000

/-! ### an access -/
theorem do_add {ps : PSta} {nx : Int} {l : List Int} {k : Nat} (h : ps.ws = nx :: l) (hk : k < ps.ac.length) :
    tellS ps k 5 0 = nx ∧ (doS ps k 5 0 0 1).ws = (nx + 1) % 4294967296 :: l ∧ (doS ps k 5 0 0 1).ac.length = ps.ac.length ∧ (doS ps k 5 0 0 1).D.length = ps.D.length + 1 := by
  have ho : okS ps k 5 0 = true := by simp [okS, okT, h]; omega
  refine ⟨?_, ?_, ?_, ?_⟩
  · unfold tellS; rw [ho]; simp [tellI, loadI, h]
  · unfold doS; rw [ho]; simp [doL, addL, storeL, loadI, h]
  · unfold doS; rw [ho]; simp [touchS, bump_len]
  · unfold doS; rw [ho]; simp [touchS]
theorem do_load {ps : PSta} {l : List Int} {k i : Nat} {a : Int} (h : ps.ws = l) (hk : k < ps.ac.length) (ha : a = ((i : Nat) : Int)) (hi : i < l.length) :
    tellS ps k 1 a = l.getD i 0 ∧ (doS ps k 1 a 0 0).ws = l ∧ (doS ps k 1 a 0 0).ac.length = ps.ac.length ∧ (doS ps k 1 a 0 0).D.length = ps.D.length + 1 := by
  subst ha h
  have ho : okS ps k 1 (i : Int) = true := by simp [okS, okT]; omega
  refine ⟨?_, ?_, ?_, ?_⟩
  · unfold tellS; rw [ho]; simp [tellI, loadI]
  · unfold doS; rw [ho]; simp [doL]
  · unfold doS; rw [ho]; simp [touchS, bump_len]
  · unfold doS; rw [ho]; simp [touchS]
theorem do_store {ps : PSta} {l : List Int} {k i : Nat} {a v : Int} (h : ps.ws = l) (hk : k < ps.ac.length) (ha : a = ((i : Nat) : Int)) (hi : i < l.length) :
    (doS ps k 2 a 0 v).ws = l.set i v ∧ (doS ps k 2 a 0 v).ac.length = ps.ac.length ∧ (doS ps k 2 a 0 v).D.length = ps.D.length + 1 := by
  subst ha h
  have ho : okS ps k 2 (i : Int) = true := by simp [okS, okT]; omega
  refine ⟨?_, ?_, ?_⟩
  · unfold doS; rw [ho]; simp [doL, storeL]
  · unfold doS; rw [ho]; simp [touchS, bump_len]
  · unfold doS; rw [ho]; simp [touchS]

theorem fin_none {s : SS} {k : Nat} {ev : Int} (h : behindI (s.st k) ev = none) : s.fin k ev = s := by
  unfold SS.fin endO
  split
  · rename_i y hy
    split at hy
    · rw [Int.toNat_natCast, h] at hy; cases hy
    · cases hy
  · rfl
theorem fin_some {s : SS} {k : Nat} {ev y : Int} (hk : k < s.n) (h : behindI (s.st k) ev = some y) : s.fin k ev = s.set k y 0 := by
  have e : endO s k ev = some y := by unfold endO; rw [if_pos (by omega), Int.toNat_natCast, h]
  unfold SS.fin
  rw [e, Int.toNat_natCast]

/-! ### the slots -/
/-- N slots, of which one is 1, or none -/
def slotsL (N : Nat) (x : Option Nat) : List Int := (List.range N).map fun i => if x = some i then 1 else 0
theorem slots_len (N : Nat) (x : Option Nat) : (slotsL N x).length = N := by simp [slotsL]
theorem slots_get (N : Nat) (x : Option Nat) {i : Nat} (hi : i < N) : (slotsL N x).getD i 0 = if x = some i then 1 else 0 := by
  simp [slotsL, hi]
theorem slots_put (N i : Nat) : (slotsL N none).set i 1 = slotsL N (some i) := by
  apply List.ext_getElem?
  intro j
  rw [List.getElem?_set]
  by_cases hj : j < N
  · by_cases e : i = j
    · subst e; simp [slotsL, hj]
    · simp [slotsL, hj, e]
  · simp [slotsL, hj]
    omega
theorem slots_take (N i : Nat) : (slotsL N (some i)).set i 0 = slotsL N none := by
  apply List.ext_getElem?
  intro j
  rw [List.getElem?_set]
  by_cases hj : j < N
  · by_cases e : i = j
    · subst e; simp [slotsL, hj]
    · simp [slotsL, hj, e]
  · simp [slotsL, hj]
    omega
/-- whose turn it is: that of the number ow, if nobody holds the lock -/
def turnO (g : Option Nat) (ow N : Nat) : Option Nat := match g with
  | none => some (ow % N)
  | some _ => none
theorem slot_same {ow i N : Nat} (hi : i < N) (h : ow % N = (ow + i) % N) : i = 0 := by
  have h2 := Nat.sub_mod_eq_zero_of_mod_eq h.symm
  rw [show ow + i - ow = i by omega, Nat.mod_eq_of_lt hi] at h2
  exact h2
theorem slot_of {nx N : Nat} (h : N ∣ 4294967296) : (((nx % 4294967296 : Nat) : Int)) % (N : Int) = ((nx % N : Nat) : Int) := by
  rw [← Int.natCast_emod, Nat.mod_mod_of_dvd _ h]
theorem slot_next (ow N : Nat) : ((((ow % N : Nat) : Int)) + 1) % (N : Int) = (((ow + 1) % N : Nat) : Int) := by
  have e : (((ow % N : Nat) : Int)) + 1 = ((ow % N + 1 : Nat) : Int) := by omega
  rw [e, ← Int.natCast_emod, Nat.mod_add_mod]

theorem FL.mid_sz (f : FL) (L : Lp) (t u : Int) : (f.mid L t u).sz = f.sz := by
  unfold FL.mid FL.acq FL.rel
  repeat' split
  all_goals rfl
/-- the sum of the first m slots -/
def onesN (x : Option Nat) (m : Nat) : Int := match x with
  | some j => if j < m then 1 else 0
  | none => 0
theorem ones_rng (x : Option Nat) (m : Nat) : 0 ≤ onesN x m ∧ onesN x m ≤ 1 := by
  unfold onesN
  repeat' split
  all_goals omega
theorem ones_more (N : Nat) (x : Option Nat) {m : Nat} (hm : m < N) : onesN x m + (slotsL N x).getD m 0 = onesN x (m + 1) := by
  rw [slots_get _ _ hm]
  unfold onesN
  cases x with
  | none => simp
  | some j =>
    simp only [Option.some.injEq]
    repeat' split
    all_goals omega

/-! ### the queue -/
structure OrdJ (f : FL) (g : Option Nat) (W : List Nat) (nx ow : Nat) : Prop where
  n8 : f.s.n ≤ 8
  nN : f.s.n ≤ f.sz
  dN : f.sz ∣ 4294967296
  sN : f.sz ≤ 64
  pr : f.s.probed = false
  ws : f.ps.ws = ((nx % 4294967296 : Nat) : Int) :: slotsL f.sz (turnO g ow f.sz)
  ac : f.ps.ac.length = f.s.n
  nodup : (g.toList ++ W).Nodup
  lt : ∀ k ∈ g.toList ++ W, k < f.s.n
  num : ∀ (i k : Nat), (g.toList ++ W)[i]? = some k → f.own k = (((ow + i) % f.sz : Nat) : Int)
  nxt : nx = ow + (g.toList ++ W).length
  dr : ∀ k, k < f.s.n → (f.pc k ≠ 0 ↔ k ∈ g.toList ++ W)
  p2 : ∀ k, k < f.s.n → f.pc k = 2 → g = some k ∨ (g = none ∧ ∃ r, W = k :: r)
  prg : ∀ k, f.pc k = 0 ∨ f.pc k = 1 ∨ f.pc k = 2
  stg : ∀ k, g = some k → f.s.st k = 2 ∨ f.s.st k = 3
  stw : ∀ k ∈ W, f.s.st k = 1
  sto : ∀ k, k < f.s.n → k ∉ g.toList ++ W → f.s.st k = 0 ∨ f.s.st k = 1
namespace OrdJ
variable {f : FL} {g : Option Nat} {W : List Nat} {nx ow : Nat} {L : Lp}
theorem len (h : OrdJ f g W nx ow) : (g.toList ++ W).length ≤ f.s.n := by
  have h1 : (g.toList ++ W).length ≤ (List.range f.s.n).length := List.Nodup.length_le_of_subset h.nodup fun k hk => List.mem_range.2 (h.lt k hk)
  rw [List.length_range] at h1
  exact h1
theorem pos (h : OrdJ f g W nx ow) : 0 < f.sz := Nat.pos_of_dvd_of_pos h.dN (by decide)
/-- of whom is what: by what a context does -/
theorem held (h : OrdJ f g W nx ow) {k : Nat} (hk : k < f.s.n) (hs : f.s.st k = 2 ∨ f.s.st k = 3) : g = some k := by
  by_cases hm : k ∈ g.toList ++ W
  · rcases List.mem_append.1 hm with hm | hm
    · simpa using hm
    · have := h.stw k hm; omega
  · have := h.sto k hk hm; omega
theorem idle (h : OrdJ f g W nx ow) {k : Nat} (hk : k < f.s.n) (hs : f.s.st k = 0) : k ∉ g.toList ++ W := fun hm => by
  rcases List.mem_append.1 hm with hm | hm
  · have := h.stg k (by simpa using hm); omega
  · have := h.stw k hm; omega
/-- what a context does becomes something that its place allows -/
theorem stS (h : OrdJ f g W nx ow) (k : Nat) (x d : Int) (h0 : k ∉ g.toList ++ W → x = 0 ∨ x = 1) (h1 : k ∈ W → x = 1) (h2 : g = some k → x = 2 ∨ x = 3) : OrdJ { f with s := f.s.set k x d } g W nx ow := by
  refine ⟨h.n8, h.nN, h.dN, h.sN, h.pr, h.ws, h.ac, h.nodup, h.lt, h.num, h.nxt, h.dr, h.p2, h.prg, fun j hj => ?_, fun j hj => ?_, fun j hj hn => ?_⟩
  · show upd f.s.st k x j = 2 ∨ upd f.s.st k x j = 3
    by_cases e : j = k
    · subst e; rw [upd_same]; exact h2 hj
    · rw [upd_other _ _ e]; exact h.stg j hj
  · show upd f.s.st k x j = 1
    by_cases e : j = k
    · subst e; rw [upd_same]; exact h1 hj
    · rw [upd_other _ _ e]; exact h.stw j hj
  · show upd f.s.st k x j = 0 ∨ upd f.s.st k x j = 1
    by_cases e : j = k
    · subst e; rw [upd_same]; exact h0 hn
    · rw [upd_other _ _ e]; exact h.sto j hj hn
theorem lock (h : OrdJ f g W nx ow) (t d : Int) : OrdJ (f.lock t d) g W nx ow := by
  unfold FL.lock SS.lock
  split
  · rename_i he
    unfold lockE at he
    split at he
    · rename_i hc
      split at he
      · rename_i hs
        have hk : t.toNat < f.s.n := by omega
        have hn := h.idle hk hs
        exact h.stS _ _ _ (fun _ => .inr rfl) (fun _ => rfl) fun e => absurd (List.mem_append_left W (by rw [e]; simp)) hn
      · omega
    · omega
  · exact h
theorem turn (h : OrdJ f g W nx ow) (t : Int) : OrdJ (f.turn t 3) g W nx ow := by
  unfold FL.turn SS.turn
  split
  · rename_i he
    unfold turnE at he
    split at he
    · rename_i hc
      split at he
      · omega
      · split at he
        · rename_i hs
          have hk : t.toNat < f.s.n := by omega
          have hg := h.held hk (.inl hs)
          refine h.stS _ _ _ (fun hn => absurd (List.mem_append_left W (by rw [hg]; simp)) hn) (fun hw => ?_) fun _ => .inr rfl
          have := h.stw _ hw
          omega
        · omega
    · omega
  · exact h
theorem probe (h : OrdJ f g W nx ow) (t : Int) : OrdJ (f.probe t) g W nx ow := by
  unfold FL.probe SS.probe
  rw [h.pr, if_neg (by decide)]
  exact h
/-- the port's state turns, the words stay -/
theorem psS (h : OrdJ f g W nx ow) {ps : PSta} (hw : ps.ws = f.ps.ws) (ha : ps.ac.length = f.ps.ac.length) : OrdJ { f with ps := ps } g W nx ow :=
  ⟨h.n8, h.nN, h.dN, h.sN, h.pr, hw.trans h.ws, ha.trans h.ac, h.nodup, h.lt, h.num, h.nxt, h.dr, h.p2, h.prg, h.stg, h.stw, h.sto⟩

/-- a number is drawn -/
theorem enq (h : OrdJ f g W nx ow) {k : Nat} (hk : k < f.s.n) (hs : f.s.st k = 1) (hd : f.pc k = 0) {ps : PSta} (hw : ps.ws = (((nx % 4294967296 : Nat) : Int) + 1) % 4294967296 :: slotsL f.sz (turnO g ow f.sz)) (ha : ps.ac.length = f.ps.ac.length) :
    OrdJ { f with pc := upd f.pc k 1, own := upd f.own k ((nx % 4294967296 : Nat) % (f.sz : Int)), ps := ps } g (W ++ [k]) (nx + 1) ow := by
  have hn : k ∉ g.toList ++ W := fun e => (h.dr k hk).2 e hd
  refine ⟨h.n8, h.nN, h.dN, h.sN, h.pr, ?_, ha.trans h.ac, ?_, ?_, ?_, ?_, ?_, ?_, ?_, h.stg, ?_, ?_⟩
  · show ps.ws = _ :: slotsL f.sz _
    rw [hw]
    congr 1
    omega
  · rw [← List.append_assoc, List.nodup_append]
    exact ⟨h.nodup, by simp, fun a h1 b h2 e => by rw [List.mem_singleton] at h2; subst e; subst h2; exact hn h1⟩
  · intro j hj
    rw [← List.append_assoc, List.mem_append, List.mem_singleton] at hj
    rcases hj with hj | rfl
    · exact h.lt j hj
    · exact hk
  · intro i j hj
    rw [← List.append_assoc] at hj
    show upd f.own k _ j = _
    by_cases hi : i < (g.toList ++ W).length
    · rw [List.getElem?_append_left hi] at hj
      have hm := List.mem_of_getElem? hj
      rw [upd_other _ _ (fun e => by subst e; exact hn hm)]
      exact h.num i j hj
    · rw [List.getElem?_append_right (by omega)] at hj
      have hi2 : i - (g.toList ++ W).length = 0 := by
        have := (List.getElem?_eq_some_iff.1 hj).1
        simpa using this
      rw [hi2] at hj
      obtain rfl : k = j := by simpa using hj
      rw [upd_same, slot_of h.dN, h.nxt, show i = (g.toList ++ W).length by omega]
  · have e : ((g.toList ++ W) ++ [k]).length = (g.toList ++ W).length + 1 := by rw [List.length_append, List.length_singleton]
    rw [h.nxt, ← List.append_assoc, e]
    omega
  · intro j hj
    show upd f.pc k 1 j ≠ 0 ↔ _
    rw [← List.append_assoc, List.mem_append, List.mem_singleton]
    by_cases e : j = k
    · subst e; rw [upd_same]; simp
    · rw [upd_other _ _ e, h.dr j hj]; simp [e]
  · intro j hj hp
    replace hp : upd f.pc k 1 j = 2 := hp
    by_cases e : j = k
    · subst e; rw [upd_same] at hp; omega
    · rw [upd_other _ _ e] at hp
      rcases h.p2 j hj hp with q | ⟨q, r, hr⟩
      · exact .inl q
      · exact .inr ⟨q, r ++ [k], by rw [hr]; rfl⟩
  · intro j
    show upd f.pc k 1 j = 0 ∨ upd f.pc k 1 j = 1 ∨ upd f.pc k 1 j = 2
    by_cases e : j = k
    · subst e; rw [upd_same]; exact .inr (.inl rfl)
    · rw [upd_other _ _ e]; exact h.prg j
  · intro j hj
    rw [List.mem_append, List.mem_singleton] at hj
    rcases hj with hj | rfl
    · exact h.stw j hj
    · exact hs
  · intro j hj hnj
    rw [← List.append_assoc, List.mem_append, not_or] at hnj
    exact h.sto j hj hnj.1
/-- where one looks, who has drawn -/
theorem ownN (h : OrdJ f g W nx ow) {k : Nat} (hm : k ∈ g.toList ++ W) : ∃ o : Nat, o < f.sz ∧ f.own k = (o : Int) := by
  obtain ⟨i, hi⟩ := List.getElem?_of_mem hm
  exact ⟨_, Nat.mod_lt _ h.pos, h.num i k hi⟩
theorem waits (h : OrdJ f g W nx ow) {k : Nat} (hk : k < f.s.n) (hs : f.s.st k = 1) (hp : f.pc k ≠ 0) : k ∈ W := by
  rcases List.mem_append.1 ((h.dr k hk).1 hp) with hm | hm
  · have := h.stg k (by simpa using hm); omega
  · exact hm
/-- whose slot is 1, and who waits, is the first -/
theorem first (h : OrdJ f g W nx ow) {k o : Nat} (hm : k ∈ W) (ho : f.own k = (o : Int)) (he : turnO g ow f.sz = some o) : g = none ∧ ∃ W', W = k :: W' ∧ k ∉ W' := by
  have hnd := h.nodup
  cases g with
  | some a => cases he
  | none =>
    obtain ⟨i, hi⟩ := List.getElem?_of_mem hm
    have hlt := (List.getElem?_eq_some_iff.1 hi).1
    have hl := h.len
    have hN := h.nN
    have hn := h.num i k hi
    rw [ho] at hn
    have e1 : ow % f.sz = o := by simpa [turnO] using he
    have e2 : ow % f.sz = (ow + i) % f.sz := by omega
    have hi0 : i < f.sz := by simp at hl; omega
    obtain rfl : i = 0 := slot_same hi0 e2
    refine ⟨rfl, ?_⟩
    cases W with
    | nil => simp at hi
    | cons a r =>
      obtain rfl : a = k := by simpa using hi
      exact ⟨r, rfl, by simpa using (List.nodup_cons.1 hnd).1⟩
/-- it sees that its turn has come -/
theorem look {k : Nat} (h : OrdJ f none (k :: W) nx ow) {ps : PSta} (hw : ps.ws = f.ps.ws) (ha : ps.ac.length = f.ps.ac.length) :
    OrdJ { f with pc := upd f.pc k 2, ps := ps } none (k :: W) nx ow := by
  refine ⟨h.n8, h.nN, h.dN, h.sN, h.pr, hw.trans h.ws, ha.trans h.ac, h.nodup, h.lt, h.num, h.nxt, fun j hj => ?_, fun j hj hp => ?_, fun j => ?_, h.stg, h.stw, h.sto⟩
  · show upd f.pc k 2 j ≠ 0 ↔ _
    by_cases e : j = k
    · subst e; rw [upd_same]; simp
    · rw [upd_other _ _ e]; exact h.dr j hj
  · replace hp : upd f.pc k 2 j = 2 := hp
    by_cases e : j = k
    · subst e; exact .inr ⟨rfl, W, rfl⟩
    · rw [upd_other _ _ e] at hp; exact h.p2 j hj hp
  · show upd f.pc k 2 j = 0 ∨ upd f.pc k 2 j = 1 ∨ upd f.pc k 2 j = 2
    by_cases e : j = k
    · subst e; rw [upd_same]; exact .inr (.inr rfl)
    · rw [upd_other _ _ e]; exact h.prg j
theorem grant {k : Nat} (h : OrdJ f none (k :: W) nx ow) (hp : f.pc k = 2) {ps : PSta} (hw : ps.ws = ((nx % 4294967296 : Nat) : Int) :: slotsL f.sz none) (ha : ps.ac.length = f.ps.ac.length) (d : Int) :
    OrdJ { f with s := f.s.set k 2 d, ps := ps } (some k) W nx ow := by
  refine ⟨h.n8, h.nN, h.dN, h.sN, h.pr, hw, ha.trans h.ac, h.nodup, h.lt, h.num, h.nxt, h.dr, fun j hj hq => ?_, h.prg, fun j hj => ?_, fun j hj => ?_, fun j hj hn => ?_⟩
  · rcases h.p2 j hj hq with q | ⟨_, r, hr⟩
    · cases q
    · obtain rfl : k = j := (List.cons.inj hr).1
      exact .inl rfl
  · obtain rfl : k = j := by simpa using hj
    exact .inl (upd_same _ _ _)
  · show upd f.s.st k 2 j = 1
    rw [upd_other _ _ (fun e => by subst e; exact (List.nodup_cons.1 h.nodup).1 hj)]
    exact h.stw j (List.mem_cons_of_mem _ hj)
  · show upd f.s.st k 2 j = 0 ∨ upd f.s.st k 2 j = 1
    rw [upd_other _ _ (fun e => by subst e; exact hn (by simp))]
    exact h.sto j hj hn
/-- the lock is given back -/
theorem free {k : Nat} (h : OrdJ f (some k) W nx ow) {ps : PSta} (hw : ps.ws = ((nx % 4294967296 : Nat) : Int) :: slotsL f.sz (some ((ow + 1) % f.sz))) (ha : ps.ac.length = f.ps.ac.length) (d : Int) :
    OrdJ { f with s := f.s.set k 0 d, pc := upd f.pc k 0, own := upd f.own k 0, ps := ps } none W nx (ow + 1) := by
  have hnW : k ∉ W := (List.nodup_cons.1 h.nodup).1
  refine ⟨h.n8, h.nN, h.dN, h.sN, h.pr, hw, ha.trans h.ac, (List.nodup_cons.1 h.nodup).2, fun j hj => h.lt j (List.mem_append_right _ hj), fun i j hj => ?_, ?_, fun j hj => ?_, fun j hj hp => ?_, fun j => ?_, fun j hj => (by cases hj), fun j hj => ?_, fun j hj hn => ?_⟩
  · show upd f.own k 0 j = _
    have hm : j ∈ W := List.mem_of_getElem? hj
    rw [upd_other _ _ (fun e => by subst e; exact hnW hm), h.num (i + 1) j (by simpa using hj), show ow + (i + 1) = ow + 1 + i by omega]
  · rw [h.nxt]
    simp only [Option.toList_some, Option.toList_none, List.length_append, List.length_singleton, List.length_nil]
    omega
  · show upd f.pc k 0 j ≠ 0 ↔ _
    by_cases e : j = k
    · subst e; rw [upd_same]; simp [hnW]
    · rw [upd_other _ _ e, h.dr j hj]; simp [e]
  · replace hp : upd f.pc k 0 j = 2 := hp
    by_cases e : j = k
    · subst e; rw [upd_same] at hp; omega
    · rw [upd_other _ _ e] at hp
      rcases h.p2 j hj hp with q | ⟨q, _⟩
      · exact absurd (by simpa using q : k = j) fun x => e x.symm
      · cases q
  · show upd f.pc k 0 j = 0 ∨ upd f.pc k 0 j = 1 ∨ upd f.pc k 0 j = 2
    by_cases e : j = k
    · subst e; rw [upd_same]; exact .inl rfl
    · rw [upd_other _ _ e]; exact h.prg j
  · show upd f.s.st k 0 j = 1
    rw [upd_other _ _ (fun e => by subst e; exact hnW hj)]
    exact h.stw j hj
  · show upd f.s.st k 0 j = 0 ∨ upd f.s.st k 0 j = 1
    by_cases e : j = k
    · subst e; rw [upd_same]; exact .inl rfl
    · rw [upd_other _ _ e]
      exact h.sto j hj (by simpa [e] using hn)

/-! ### a step, by what a context does -/
theorem at_none {t : Int} (hk : ¬ ((0 : Int) ≤ t ∧ t < f.s.n)) : f.did L t t = Dd.no ∧ f.step L t t = f := by
  have e : f.did L t t = Dd.no := by unfold FL.did; rw [if_neg hk]
  have em : f.mid L t t = f := by unfold FL.mid; rw [if_neg hk]
  refine ⟨e, ?_⟩
  have e0 : f.s.fin t Dd.no.ev = f.s := by
    have e0 : endO f.s t Dd.no.ev = none := by unfold endO; rw [if_neg hk]
    unfold SS.fin
    rw [e0]
  unfold FL.step
  rw [e, em, e0]
theorem at_idle (h : OrdJ f g W nx ow) {k : Nat} (hk : k < f.s.n) (s0 : f.s.st k ≠ 1) (s3 : f.s.st k ≠ 3) : f.did L k k = Dd.no ∧ f.step L k k = f := by
  have ht : (0 : Int) ≤ (k : Int) ∧ (k : Int) < f.s.n := by omega
  have e : f.did L k k = Dd.no := by
    unfold FL.did
    rw [if_pos ht, Int.toNat_natCast, if_neg s0, if_neg s3]
  have em : f.mid L k k = f := by
    unfold FL.mid
    rw [if_pos ht, Int.toNat_natCast, if_neg s0, if_neg s3]
  refine ⟨e, ?_⟩
  unfold FL.step
  rw [e, em, fin_none (by
    unfold behindI
    rw [if_neg (fun e => s0 e.1), if_neg (fun e => s0 e.1), if_neg (fun e => s3 e.1), if_neg (fun e => e.2.elim (fun q => absurd q (by decide)) fun q => absurd q (by decide))])]
theorem at_draw (h : OrdJ f g W nx ow) (h1 : L.a1 = 0) {k : Nat} (hk : k < f.s.n) (s1 : f.s.st k = 1) (hd : f.pc k = 0) :
    f.did L k k = ⟨0, true, false, false⟩ ∧ f.step L k k = { f with pc := upd f.pc k 1, own := upd f.own k ((nx % 4294967296 : Nat) % (f.sz : Int)), ps := doS f.ps k 5 0 0 1 } := by
  have ht : (0 : Int) ≤ (k : Int) ∧ (k : Int) < f.s.n := by omega
  have e : f.did L k k = ⟨0, true, false, false⟩ := by
    unfold FL.did FL.acqD
    rw [if_pos ht, Int.toNat_natCast, if_pos s1, if_pos hd]
  have em : f.mid L k k = { f with pc := upd f.pc k 1, own := upd f.own k ((nx % 4294967296 : Nat) % (f.sz : Int)), ps := doS f.ps k 5 0 0 1 } := by
    unfold FL.mid FL.acq
    rw [if_pos ht, Int.toNat_natCast, if_pos s1, if_pos hd, h1, (do_add h.ws (by rw [h.ac]; exact hk)).1]
  refine ⟨e, ?_⟩
  unfold FL.step
  rw [e, em, fin_none (by rw [s1]; rfl)]
/-- what it finds where it looks -/
theorem sees (h : OrdJ f g W nx ow) (h2 : L.a2 = 1) {k o : Nat} (hk : k < f.s.n) (ho : f.own k = (o : Int)) (o1 : o < f.sz) :
    tellS f.ps k 1 (L.a2 + f.own k) = (if turnO g ow f.sz = some o then 1 else 0) ∧ (doS f.ps k 1 (L.a2 + f.own k) 0 0).ws = f.ps.ws ∧ (doS f.ps k 1 (L.a2 + f.own k) 0 0).ac.length = f.ps.ac.length ∧ (doS f.ps k 1 (L.a2 + f.own k) 0 0).D.length = f.ps.D.length + 1 := by
  have hl : (1 + o) < f.ps.ws.length := by rw [h.ws, List.length_cons, slots_len]; omega
  obtain ⟨a, b, c, d⟩ := do_load (a := L.a2 + f.own k) (i := 1 + o) rfl (show k < f.ps.ac.length by rw [h.ac]; exact hk) (by rw [h2, ho]; omega) hl
  refine ⟨?_, b, c, d⟩
  rw [a, h.ws, Nat.add_comm 1 o, List.getD_cons_succ, slots_get _ _ o1]
theorem at_look (h : OrdJ f g W nx ow) (h2 : L.a2 = 1) {k o : Nat} (hk : k < f.s.n) (s1 : f.s.st k = 1) (hd : f.pc k = 1) (ho : f.own k = (o : Int)) (o1 : o < f.sz) (he : turnO g ow f.sz = some o) :
    f.did L k k = Dd.no ∧ f.step L k k = { f with pc := upd f.pc k 2, ps := doS f.ps k 1 (L.a2 + f.own k) 0 0 } := by
  have ht : (0 : Int) ≤ (k : Int) ∧ (k : Int) < f.s.n := by omega
  have e1 := (h.sees h2 hk ho o1).1
  rw [if_pos he] at e1
  have e : f.did L k k = Dd.no := by
    unfold FL.did FL.acqD
    rw [if_pos ht, Int.toNat_natCast, if_pos s1, if_neg (by omega), if_pos hd]
  have em : f.mid L k k = { f with pc := upd f.pc k 2, ps := doS f.ps k 1 (L.a2 + f.own k) 0 0 } := by
    unfold FL.mid FL.acq
    rw [if_pos ht, Int.toNat_natCast, if_pos s1, if_neg (by omega), if_pos hd, if_neg (by rw [e1]; decide)]
  refine ⟨e, ?_⟩
  unfold FL.step
  rw [e, em, fin_none (by rw [s1]; rfl)]
theorem at_wait (h : OrdJ f g W nx ow) (h2 : L.a2 = 1) {k o : Nat} (hk : k < f.s.n) (s1 : f.s.st k = 1) (hd : f.pc k = 1) (ho : f.own k = (o : Int)) (o1 : o < f.sz) (he : turnO g ow f.sz ≠ some o) :
    f.did L k k = Dd.no ∧ f.step L k k = { f with ps := doS f.ps k 1 (L.a2 + f.own k) 0 0 } := by
  have ht : (0 : Int) ≤ (k : Int) ∧ (k : Int) < f.s.n := by omega
  have e1 := (h.sees h2 hk ho o1).1
  rw [if_neg he] at e1
  have e : f.did L k k = Dd.no := by
    unfold FL.did FL.acqD
    rw [if_pos ht, Int.toNat_natCast, if_pos s1, if_neg (by omega), if_pos hd]
  have em : f.mid L k k = { f with ps := doS f.ps k 1 (L.a2 + f.own k) 0 0 } := by
    unfold FL.mid FL.acq
    rw [if_pos ht, Int.toNat_natCast, if_pos s1, if_neg (by omega), if_pos hd, if_pos e1]
  refine ⟨e, ?_⟩
  unfold FL.step
  rw [e, em, fin_none (by rw [s1]; rfl)]
/-- it takes the turn -/
theorem at_turn {k : Nat} (h : OrdJ f none (k :: W) nx ow) (h2 : L.a2 = 1) (hk : k < f.s.n) (s1 : f.s.st k = 1) (hd : f.pc k = 2) :
    f.did L k k = ⟨1, false, false, false⟩ ∧ f.step L k k = { f with s := f.s.set k 2 0, ps := doS f.ps k 2 (L.a2 + f.own k) 0 0 } ∧ (doS f.ps k 2 (L.a2 + f.own k) 0 0).ws = ((nx % 4294967296 : Nat) : Int) :: slotsL f.sz none ∧ (doS f.ps k 2 (L.a2 + f.own k) 0 0).ac.length = f.ps.ac.length ∧ (doS f.ps k 2 (L.a2 + f.own k) 0 0).D.length = f.ps.D.length + 1 := by
  have ht : (0 : Int) ≤ (k : Int) ∧ (k : Int) < f.s.n := by omega
  have hp := h.pos
  have ho : f.own k = ((ow % f.sz : Nat) : Int) := h.num 0 k rfl
  have hlt := Nat.mod_lt ow hp
  have hl : (1 + ow % f.sz) < f.ps.ws.length := by rw [h.ws, List.length_cons, slots_len]; omega
  obtain ⟨b, c, d⟩ := do_store (a := L.a2 + f.own k) (i := 1 + ow % f.sz) (v := 0) rfl (show k < f.ps.ac.length by rw [h.ac]; exact hk) (by rw [h2, ho]; omega) hl
  have e : f.did L k k = ⟨1, false, false, false⟩ := by
    unfold FL.did FL.acqD
    rw [if_pos ht, Int.toNat_natCast, if_pos s1, if_neg (by omega), if_neg (by omega)]
  have em : f.mid L k k = { f with ps := doS f.ps k 2 (L.a2 + f.own k) 0 0 } := by
    unfold FL.mid FL.acq
    rw [if_pos ht, Int.toNat_natCast, if_pos s1, if_neg (by omega), if_neg (by omega)]
  refine ⟨e, ?_, ?_, c, d⟩
  · unfold FL.step
    rw [e, em, fin_some hk (by rw [s1]; rfl : behindI (f.s.st k) 1 = some 2)]
  · rw [b, h.ws, Nat.add_comm 1 _, List.set_cons_succ]
    congr 1
    exact slots_take _ _
theorem at_free {k : Nat} (h : OrdJ f (some k) W nx ow) (h2 : L.a2 = 1) (hk : k < f.s.n) (s3 : f.s.st k = 3) :
    f.did L k k = ⟨3, false, false, false⟩ ∧ f.step L k k = { f with s := f.s.set k 0 0, pc := upd f.pc k 0, own := upd f.own k 0, ps := doS f.ps k 2 (L.a2 + (f.own k + 1) % f.sz) 0 1 } ∧
      (doS f.ps k 2 (L.a2 + (f.own k + 1) % f.sz) 0 1).ws = ((nx % 4294967296 : Nat) : Int) :: slotsL f.sz (some ((ow + 1) % f.sz)) ∧ (doS f.ps k 2 (L.a2 + (f.own k + 1) % f.sz) 0 1).ac.length = f.ps.ac.length ∧ (doS f.ps k 2 (L.a2 + (f.own k + 1) % f.sz) 0 1).D.length = f.ps.D.length + 1 := by
  have ht : (0 : Int) ≤ (k : Int) ∧ (k : Int) < f.s.n := by omega
  have hp := h.pos
  have ho : f.own k = ((ow % f.sz : Nat) : Int) := h.num 0 k rfl
  have ho2 : (f.own k + 1) % (f.sz : Int) = (((ow + 1) % f.sz : Nat) : Int) := by rw [ho, slot_next]
  have hlt := Nat.mod_lt (ow + 1) hp
  have hl : (1 + (ow + 1) % f.sz) < f.ps.ws.length := by rw [h.ws, List.length_cons, slots_len]; omega
  obtain ⟨b, c, d⟩ := do_store (a := L.a2 + (f.own k + 1) % f.sz) (i := 1 + (ow + 1) % f.sz) (v := 1) rfl (show k < f.ps.ac.length by rw [h.ac]; exact hk) (by rw [h2, ho2]; omega) hl
  have e : f.did L k k = ⟨3, false, false, false⟩ := by
    unfold FL.did
    rw [if_pos ht, Int.toNat_natCast, if_neg (by omega), if_pos s3]
  have em : f.mid L k k = f.rel L k k := by
    unfold FL.mid
    rw [if_pos ht, Int.toNat_natCast, if_neg (by omega), if_pos s3]
  refine ⟨e, ?_, ?_, c, d⟩
  · unfold FL.step
    rw [e, em, fin_some hk (by rw [s3]; rfl : behindI (f.s.st k) 3 = some 0)]
    rfl
  · rw [b, h.ws, Nat.add_comm 1 _, List.set_cons_succ]
    congr 1
    exact slots_put _ _

/-- a step: what comes of the queue -/
inductive StepQ (W : List Nat) (t : Int) (d : Dd) (W' : List Nat) : Prop where
  | same (h0 : d.enq = false) (h1 : d.ev ≠ 1) (h2 : d.ev ≠ 2) (e : W' = W) : StepQ W t d W'
  | enq (hd : d = ⟨0, true, false, false⟩) (k : Nat) (ht : t = k) (e : W' = W ++ [k]) : StepQ W t d W'
  | grant (hd : d = ⟨1, false, false, false⟩) (k : Nat) (ht : t = k) (e : W = k :: W') (hn : k ∉ W') : StepQ W t d W'
theorem step (h : OrdJ f g W nx ow) (h1 : L.a1 = 0) (h2 : L.a2 = 1) (t : Int) :
    ∃ g' W' nx' ow', OrdJ (f.step L t t) g' W' nx' ow' ∧ (f.step L t t).ps.D.length ≤ f.ps.D.length + 1 ∧ StepQ W t (f.did L t t) W' := by
  by_cases ht : 0 ≤ t ∧ t < f.s.n
  · obtain ⟨k, rfl⟩ := Int.eq_ofNat_of_zero_le ht.1
    have hk : k < f.s.n := by omega
    by_cases s1 : f.s.st k = 1
    · by_cases p0 : f.pc k = 0
      · obtain ⟨_, e2, e3, e4⟩ := do_add h.ws (show k < f.ps.ac.length by rw [h.ac]; exact hk)
        obtain ⟨d1, d2⟩ := h.at_draw h1 hk s1 p0
        rw [d1, d2]
        exact ⟨g, W ++ [k], nx + 1, ow, h.enq hk s1 p0 e2 e3, Nat.le_of_eq e4, .enq rfl k rfl rfl⟩
      · have hm := h.waits hk s1 p0
        obtain ⟨o, o1, ho⟩ := h.ownN (List.mem_append_right _ hm)
        rcases h.prg k with q | q | q
        · exact absurd q p0
        · obtain ⟨_, a2, a3, a4⟩ := h.sees h2 hk ho o1
          by_cases he : turnO g ow f.sz = some o
          · obtain ⟨d1, d2⟩ := h.at_look h2 hk s1 q ho o1 he
            obtain ⟨rfl, W', rfl, hn⟩ := h.first hm ho he
            rw [d1, d2]
            exact ⟨none, k :: W', nx, ow, h.look a2 a3, Nat.le_of_eq a4, .same rfl (by decide) (by decide) rfl⟩
          · obtain ⟨d1, d2⟩ := h.at_wait h2 hk s1 q ho o1 he
            rw [d1, d2]
            exact ⟨g, W, nx, ow, h.psS a2 a3, Nat.le_of_eq a4, .same rfl (by decide) (by decide) rfl⟩
        · rcases h.p2 k hk q with e | ⟨rfl, W', rfl⟩
          · have := h.stg k e; omega
          · obtain ⟨d1, d2, d3, d4, d5⟩ := h.at_turn h2 hk s1 q
            rw [d1, d2]
            exact ⟨some k, W', nx, ow, h.grant q d3 d4 0, Nat.le_of_eq d5, .grant rfl k rfl rfl (List.nodup_cons.1 h.nodup).1⟩
    · by_cases s3 : f.s.st k = 3
      · obtain rfl := h.held hk (.inr s3)
        obtain ⟨d1, d2, d3, d4, d5⟩ := h.at_free h2 hk s3
        rw [d1, d2]
        exact ⟨none, W, nx, ow + 1, h.free d3 d4 0, Nat.le_of_eq d5, .same rfl (by decide) (by decide) rfl⟩
      · obtain ⟨d1, d2⟩ := h.at_idle (L := L) hk s1 s3
        rw [d1, d2]
        exact ⟨g, W, nx, ow, h, Nat.le_succ _, .same rfl (by decide) (by decide) rfl⟩
  · obtain ⟨d1, d2⟩ := at_none (L := L) ht
    rw [d1, d2]
    exact ⟨g, W, nx, ow, h, Nat.le_succ _, .same rfl (by decide) (by decide) rfl⟩
end OrdJ

/-! ### what holds of the lock and the law's queue -/
def OrdI (f : FL) (W : List Nat) : Prop := ∃ g nx ow, OrdJ f g W nx ow
namespace OrdI
variable {f : FL} {W : List Nat} {L : Lp}
theorem lock (h : OrdI f W) (t d : Int) : OrdI (f.lock t d) W := by obtain ⟨g, nx, ow, h⟩ := h; exact ⟨g, nx, ow, h.lock t d⟩
theorem unlock (h : OrdI f W) (t : Int) : OrdI (f.turn t 3) W := by obtain ⟨g, nx, ow, h⟩ := h; exact ⟨g, nx, ow, h.turn t⟩
theorem probe (h : OrdI f W) (t : Int) : OrdI (f.probe t) W := by obtain ⟨g, nx, ow, h⟩ := h; exact ⟨g, nx, ow, h.probe t⟩
theorem step (h : OrdI f W) (h1 : L.a1 = 0) (h2 : L.a2 = 1) (t : Int) : ∃ W', OrdI (f.step L t t) W' ∧ (f.step L t t).ps.D.length ≤ f.ps.D.length + 1 ∧ OrdJ.StepQ W t (f.did L t t) W' := by
  obtain ⟨g, nx, ow, h⟩ := h
  obtain ⟨g', W', nx', ow', a, b, c⟩ := h.step h1 h2 t
  exact ⟨W', ⟨g', nx', ow', a⟩, b, c⟩
theorem n8 (h : OrdI f W) : f.s.n ≤ 8 := by obtain ⟨g, nx, ow, h⟩ := h; exact h.n8
theorem len (h : OrdI f W) : W.length ≤ 8 := by
  obtain ⟨g, nx, ow, h⟩ := h
  have := h.len
  have := h.n8
  rw [List.length_append] at *
  omega
theorem one (h : OrdI f W) {j k : Nat} (hj : j < f.s.n) (hk : k < f.s.n) (ej : f.s.st j = 2) (ek : f.s.st k = 2) : j = k := by
  obtain ⟨g, nx, ow, h⟩ := h
  have h1 := h.held hj (.inl ej)
  have h2 := h.held hk (.inl ek)
  rw [h1] at h2
  simpa using h2
/-- at most one slot is 1 -/
theorem words (h : OrdI f W) : ∃ (nx : Nat) (x : Option Nat), f.ps.ws = ((nx % 4294967296 : Nat) : Int) :: slotsL f.sz x := by obtain ⟨g, nx, ow, h⟩ := h; exact ⟨nx, _, h.ws⟩
theorem lenW (h : OrdI f W) : f.ps.ws.length ≤ 4096 := by obtain ⟨g, nx, ow, h⟩ := h; rw [h.ws, List.length_cons, slots_len]; have := h.sN; omega
end OrdI
end Go.Proofs.Ytiddapikahchkaa
