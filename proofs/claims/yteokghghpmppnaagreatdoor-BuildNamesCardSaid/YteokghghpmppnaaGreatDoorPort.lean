/- The contracts of package port's functions: a port is a memory, a cache of the same words, and two rows of counts; each access tells and leaves what is said of them. -/
import Derived.Test.YteokghghpmppnaaGreatDoorMemHomes
import Derived.Test.YteokghghpmppnaaGreatDoorCacheRef
namespace Go.Proofs.YteokghghpmppnaaGreatDoor
open Go.RowKit
set_option linter.unusedVariables false
set_option maxRecDepth 100000

/-! ### what is said of a port: its words, the touches so far, each thread's accesses, writes and misses -/
structure PSta where
  ws : List Int
  D : List Tch
  ac : List Nat
  wc : List Nat
  mc : List Nat
def bump (l : List Nat) (t : Nat) (b : Bool) : List Nat := if b then l.set t (l.getD t 0 + 1) else l
theorem bump_len (l : List Nat) (t : Nat) (b : Bool) : (bump l t b).length = l.length := by cases b <;> simp [bump]
theorem bump_le {l : List Nat} {t : Nat} {b : Bool} {L : Nat} (h : ∀ x ∈ l, x ≤ L) : ∀ x ∈ bump l t b, x ≤ L + 1 := by
  intro x hx
  cases b
  · exact Nat.le_succ_of_le (h x hx)
  · rcases List.mem_or_eq_of_mem_set hx with hx | rfl
    · exact Nat.le_succ_of_le (h x hx)
    · by_cases ht : t < l.length
      · have : l.getD t 0 = l[t] := by simp [ht]
        rw [this]
        exact Nat.succ_le_succ (h _ (List.getElem_mem ht))
      · simp [List.getElem?_eq_none (show l.length ≤ t by omega)]
theorem getD_le {l : List Nat} {L : Nat} (h : ∀ x ∈ l, x ≤ L) (t : Nat) : l.getD t 0 ≤ L := by
  by_cases ht : t < l.length
  · have : l.getD t 0 = l[t] := by simp [ht]
    rw [this]
    exact h _ (List.getElem_mem ht)
  · simp [List.getElem?_eq_none (show l.length ≤ t by omega)]
/-- is there such a thread, and such a word? -/
def okT (s : PSta) (t a : Int) : Bool := decide (0 ≤ t ∧ t < s.ac.length ∧ 0 ≤ a ∧ a < s.ws.length)
def touchS (s : PSta) (t a : Int) (wr : Bool) : PSta :=
  { ws := s.ws, D := s.D ++ [(t, a, wr)], ac := bump s.ac t.toNat true, wc := bump s.wc t.toNat wr, mc := bump s.mc t.toNat (missL s.D t a wr s.ac.length) }
def cntS (s : PSta) (t a : Int) (wr : Bool) : PSta := if okT s t a then touchS s t a wr else s
/-- the access of kind K -/
def okS (s : PSta) (t K a : Int) : Bool := okT s t a && decide (1 ≤ K ∧ K ≤ 5)
def doS (s : PSta) (t K a old v : Int) : PSta := if okS s t K a then { touchS s t a (decide (1 < K)) with ws := doL s.ws K a old v } else s
def tellS (s : PSta) (t K a : Int) : Int := if okS s t K a then tellI s.ws K a else 0
def didS (s : PSta) (t K a old : Int) : Int := if okS s t K a then didI s.ws K a old else 0
theorem okT_at {s : PSta} {t a : Nat} (ht : t < s.ac.length) (ha : a < s.ws.length) : okT s t a = true := by simp [okT, ht, ha]
theorem okT_not {s : PSta} {t a : Int} (h : ¬(0 ≤ t ∧ t < s.ac.length ∧ 0 ≤ a ∧ a < s.ws.length)) : okT s t a = false := by simp only [okT, decide_eq_false_iff_not]; exact h

/-! ### a port in the heap: where its blocks lie -/
structure Place where
  p : Nat
  m : Nat
  bw : Nat
  c : Nat
  bc : Nat
  bm : Nat
  ba : Nat
  bv : Nat
  k0 : Nat
  k1 : Nat
  k2 : Nat
  k3 : Nat
  hv : Value
/-- from a to below b -/
def Rng (a b : Nat) (k : Nat) : Prop := a ≤ k ∧ k < b
structure Place.ok (q : Place) : Prop where
  m : q.k0 ≤ q.m ∧ q.m < q.k1
  bw : q.k0 ≤ q.bw ∧ q.bw < q.k1
  hv : ∀ k, q.hv.ownBlock = some k → q.k0 ≤ k ∧ k < q.k1
  c : q.k1 ≤ q.c ∧ q.c < q.k2
  bc : q.k1 ≤ q.bc ∧ q.bc < q.k2
  bm : q.k1 ≤ q.bm ∧ q.bm < q.k2
  p : q.k2 ≤ q.p ∧ q.p < q.k3
  ba : q.k2 ≤ q.ba ∧ q.ba < q.k3
  bv : q.k2 ≤ q.bv ∧ q.bv < q.k3
  ne : q.p ≠ q.ba ∧ q.p ≠ q.bv ∧ q.ba ≠ q.bv
  le : q.k0 ≤ q.k1 ∧ q.k1 ≤ q.k2 ∧ q.k2 ≤ q.k3

def natRow (l : List Nat) : Array Value := (l.map fun (n : Nat) => Value.int .i64 (n : Int)).toArray
theorem natRow_at {l : List Nat} {k : Nat} (hk : k < l.length) : (natRow l)[k]? = some (.int .i64 ((l.getD k 0 : Nat) : Int)) := by simp [natRow, hk]
theorem natRow_set (l : List Nat) (k v : Nat) : (natRow l).setIfInBounds k (.int .i64 (v : Int)) = natRow (l.set k v) := by simp [natRow, List.map_set]

structure PortAt (w : World) (q : Place) (hs : List Int) (s : PSta) : Prop where
  obj : w.heap[q.p]? = some (.cells #[.pointer (some ⟨q.m, 0, none⟩), .pointer (some ⟨q.c, 0, none⟩), .slice (some ⟨q.ba, 0, none⟩) s.ac.length s.ac.length, .slice (some ⟨q.bv, 0, none⟩) s.ac.length s.ac.length] 44 (0, 0))
  mem : MemAt w q.m q.bw q.hv hs s.ws
  cache : ∃ cs, CacheAt w q.c q.bc q.bm cs s.mc s.D.length ∧ cs.length = s.ws.length ∧ Rel cs s.ac.length s.D
  acc : w.heap[q.ba]? = some (.cells (natRow s.ac) 3 (0, 0))
  wri : w.heap[q.bv]? = some (.cells (natRow s.wc) 3 (0, 0))
  lv : s.wc.length = s.ac.length
  lm : s.mc.length = s.ac.length
  rngA : ∀ x ∈ s.ac, x ≤ s.D.length
  rngV : ∀ x ∈ s.wc, x ≤ s.D.length
  place : q.ok

namespace PortAt
variable {w w' : World} {q : Place} {hs : List Int} {s : PSta}
theorem lt (h : PortAt w q hs s) : q.p < w.heap.size := blk_lt h.obj
theorem cell0 (h : PortAt w q hs s) : w.cell? ⟨q.p, 0, none⟩ = some (.pointer (some ⟨q.m, 0, none⟩)) := by rw [blk_cell h.obj]; rfl
theorem cell1 (h : PortAt w q hs s) : w.cell? ⟨q.p, 1, none⟩ = some (.pointer (some ⟨q.c, 0, none⟩)) := by rw [blk_cell h.obj]; rfl
theorem cell2 (h : PortAt w q hs s) : w.cell? ⟨q.p, 2, none⟩ = some (.slice (some ⟨q.ba, 0, none⟩) s.ac.length s.ac.length) := by rw [blk_cell h.obj]; rfl
theorem cell3 (h : PortAt w q hs s) : w.cell? ⟨q.p, 3, none⟩ = some (.slice (some ⟨q.bv, 0, none⟩) s.ac.length s.ac.length) := by rw [blk_cell h.obj]; rfl
theorem count (h : PortAt w q hs s) {k : Nat} (hk : k < s.ac.length) : w.cell? ⟨q.ba, k, none⟩ = some (.int .i64 ((s.ac.getD k 0 : Nat) : Int)) := by rw [blk_cell h.acc, natRow_at hk]
theorem writes (h : PortAt w q hs s) {k : Nat} (hk : k < s.ac.length) : w.cell? ⟨q.bv, k, none⟩ = some (.int .i64 ((s.wc.getD k 0 : Nat) : Int)) := by rw [blk_cell h.wri, natRow_at (by rw [h.lv]; exact hk)]
theorem frozenA (h : PortAt w q hs s) (k : Nat) : w.frozen? ⟨q.ba, k, none⟩ = false := blk_frozen h.acc k
theorem frozenV (h : PortAt w q hs s) (k : Nat) : w.frozen? ⟨q.bv, k, none⟩ = false := blk_frozen h.wri k
theorem threads (h : PortAt w q hs s) : s.ac.length ≤ 64 := by
  obtain ⟨cs, h1, _⟩ := h.cache
  have := h1.threads
  rw [h.lm] at this
  exact this
theorem words (h : PortAt w q hs s) : s.ws.length ≤ 4096 := h.mem.small
theorem wrote {S : Nat → Prop} (h : PortAt w q hs s) (k : Wrote S w w') (hS : ∀ b, q.k0 ≤ b → b < q.k3 → ¬ S b) : PortAt w' q hs s := by
  obtain ⟨cs, h1, h2, h3⟩ := h.cache
  have P := h.place
  have q1 := P.m; have q2 := P.bw; have q3 := P.hv; have q4 := P.c; have q5 := P.bc; have q6 := P.bm; have q7 := P.p; have q8 := P.ba; have q9 := P.bv; have q10 := P.le
  refine ⟨(k.block q.p (blk_lt h.obj) (hS _ (by omega) (by omega))).trans h.obj, h.mem.wrote k (hS _ (by omega) (by omega)) (hS _ (by omega) (by omega)) (fun j hj => hS _ (by have := q3 j hj; omega) (by have := q3 j hj; omega)),
    ⟨cs, h1.wrote k (hS _ (by omega) (by omega)) (hS _ (by omega) (by omega)) (hS _ (by omega) (by omega)), h2, h3⟩, (k.block q.ba (blk_lt h.acc) (hS _ (by omega) (by omega))).trans h.acc, (k.block q.bv (blk_lt h.wri) (hS _ (by omega) (by omega))).trans h.wri,
    h.lv, h.lm, h.rngA, h.rngV, h.place⟩
theorem after (h : PortAt w q hs s) (k : Wrote Nil w w') : PortAt w' q hs s := h.wrote k fun _ _ _ => id
/-- behind an access of the memory -/
theorem memory (h : PortAt w q hs s) {ws' : List Int} (hM : MemAt w' q.m q.bw q.hv hs ws') (hl : ws'.length = s.ws.length) (k : Wrote (One q.bw) w w') : PortAt w' q hs { s with ws := ws' } := by
  obtain ⟨cs, h1, h2, h3⟩ := h.cache
  have P := h.place
  have q1 := P.m; have q2 := P.bw; have q4 := P.c; have q5 := P.bc; have q6 := P.bm; have q7 := P.p; have q8 := P.ba; have q9 := P.bv; have q10 := P.le
  have n : ∀ b, q.k1 ≤ b → ¬ One q.bw b := fun b hb e => by cases e; omega
  exact ⟨(k.block q.p (blk_lt h.obj) (n _ (by omega))).trans h.obj, hM, ⟨cs, h1.wrote k (n _ (by omega)) (n _ (by omega)) (n _ (by omega)), h2.trans hl.symm, h3⟩, (k.block q.ba (blk_lt h.acc) (n _ (by omega))).trans h.acc,
    (k.block q.bv (blk_lt h.wri) (n _ (by omega))).trans h.wri, h.lv, h.lm, h.rngA, h.rngV, h.place⟩
/-- behind an access that was counted -/
theorem counted (h : PortAt w q hs s) {cs : List Nat} {t a : Nat} {wr : Bool} (ht : t < s.ac.length) (ha : a < s.ws.length) (hc : CacheAt w q.c q.bc q.bm cs s.mc s.D.length) (hl : cs.length = s.ws.length) (hr : Rel cs s.ac.length s.D)
    (k : Wrote (fun b => b = q.ba ∨ b = q.bv ∨ b = q.bc ∨ b = q.bm) w w') (hA : w'.heap[q.ba]? = some (.cells (natRow (bump s.ac t true)) 3 (0, 0))) (hV : w'.heap[q.bv]? = some (.cells (natRow (bump s.wc t wr)) 3 (0, 0)))
    (hC : CacheAt w' q.c q.bc q.bm (touchC cs t a wr) (touchM cs s.mc t a wr) (s.D.length + 1)) : PortAt w' q hs (touchS s t a wr) ∧ Wrote (Rng q.k0 q.k3) w w' := by
  have P := h.place
  have q1 := P.m; have q2 := P.bw; have q3 := P.hv; have q4 := P.c; have q5 := P.bc; have q6 := P.bm; have q7 := P.p; have q8 := P.ba; have q9 := P.bv; have q10 := P.le; have q11 := P.ne
  have hrow := hc.row_lt a
  rw [h.lm] at hrow
  have hm := rel_miss hr ht (by omega) hrow wr
  have hM : touchM cs s.mc t a wr = bump s.mc t (missL s.D t a wr s.ac.length) := by unfold touchM bump; rw [hm]
  rw [hM] at hC
  refine ⟨⟨?_, ?_, ⟨touchC cs t a wr, ?_, ?_, ?_⟩, ?_, ?_, ?_, ?_, ?_, ?_, P⟩, k.mono ?_⟩
  · have := (k.block q.p (blk_lt h.obj) (by rintro (e | e | e | e) <;> omega)).trans h.obj
    simpa [touchS, bump_len] using this
  · exact h.mem.wrote k (by rintro (e | e | e | e) <;> omega) (by rintro (e | e | e | e) <;> omega) (fun j hj => by have := q3 j hj; rintro (e | e | e | e) <;> omega)
  · have : (touchS s t a wr).D.length = s.D.length + 1 := by simp [touchS]
    rw [this]
    exact hC
  · rw [touchC_len]; exact hl
  · have := rel_touch hr ht (by omega) (a := a) wr
    simpa [touchS, bump_len] using this
  · exact hA
  · exact hV
  · simp [touchS, bump_len, h.lv]
  · simp [touchS, bump_len, h.lm]
  · intro x hx
    have := bump_le h.rngA x (show x ∈ bump s.ac t true from hx)
    simpa [touchS] using this
  · intro x hx
    have := bump_le h.rngV x (show x ∈ bump s.wc t wr from hx)
    simpa [touchS] using this
  · intro b _ hb
    unfold Rng
    rcases hb with e | e | e | e <;> omega
end PortAt

/-! ### the small functions -/
theorem inB_at' {n : Nat} {a : Int} (h : 0 ≤ a ∧ a < n) : inB n a = true := by simp only [inB, decide_eq_true_eq]; exact h
theorem pthread_any {w : World} {q : Place} {hs : List Int} {s : PSta} (h : PortAt w q hs s) (t : Int) :
    Calls Tryz.prog 69 #[.pointer (some ⟨q.p, 0, none⟩), .int .i64 t] w fun e w' => e = .returned (.bool (inB s.ac.length t)) ∧ w' = w := by
  have c1 := h.cell2
  have H := Lib.hid h
  clear h
  by_cases h0 : 0 ≤ t
  · by_cases h1 : t < s.ac.length
    · have hh : Hid (inB s.ac.length t = true) := Lib.hid (by simp [inB, h0, h1])
      go_enter Tryz.func69, Tryz.ntmps69
      go_wp2
      go_ret
      exact ⟨ret_truth hh.out.symm, rfl⟩
    · have hh : Hid (inB s.ac.length t = false) := Lib.hid (inB_not (by omega))
      go_enter Tryz.func69, Tryz.ntmps69
      go_wp2
      go_ret
      exact ⟨ret_truth hh.out.symm, rfl⟩
  · have hh : Hid (inB s.ac.length t = false) := Lib.hid (inB_not (by omega))
    go_enter Tryz.func69, Tryz.ntmps69
    go_wp2
    go_ret
    exact ⟨ret_truth hh.out.symm, rfl⟩

theorem pword_any {w : World} {q : Place} {hs : List Int} {s : PSta} (h : PortAt w q hs s) (a : Int) :
    Calls Tryz.prog 70 #[.pointer (some ⟨q.p, 0, none⟩), .int .i64 a] w fun e w' => e = .returned (.bool (inB s.ws.length a)) ∧ w' = w := by
  have c1 := h.cell0
  have c2 := len_any h.mem
  have H := Lib.hid h
  clear h
  by_cases h0 : 0 ≤ a
  · by_cases h1 : a < s.ws.length
    · have hh : Hid (inB s.ws.length a = true) := Lib.hid (by simp [inB, h0, h1])
      go_enter Tryz.func70, Tryz.ntmps70
      go_wp2_with (go_at_call 11; refine c2.mono ?_; rintro e w' ⟨rfl, rfl⟩)
      go_ret
      exact ⟨ret_truth hh.out.symm, rfl⟩
    · have hh : Hid (inB s.ws.length a = false) := Lib.hid (inB_not (by omega))
      go_enter Tryz.func70, Tryz.ntmps70
      go_wp2_with (go_at_call 11; refine c2.mono ?_; rintro e w' ⟨rfl, rfl⟩)
      go_ret
      exact ⟨ret_truth (by rw [hh.out]; simp; omega), rfl⟩
  · have hh : Hid (inB s.ws.length a = false) := Lib.hid (inB_not (by omega))
    go_enter Tryz.func70, Tryz.ntmps70
    go_wp2
    go_ret
    exact ⟨ret_truth hh.out.symm, rfl⟩

/-- a thread's count, nought of one that there isn't -/
def cntI (l : List Nat) (t : Int) : Int := if 0 ≤ t then ((l.getD t.toNat 0 : Nat) : Int) else 0
theorem cntI_at (l : List Nat) (t : Nat) : cntI l t = ((l.getD t 0 : Nat) : Int) := by simp [cntI]
theorem cntI_not {l : List Nat} {t : Int} (h : ¬(0 ≤ t ∧ t < l.length)) : cntI l t = 0 := by
  unfold cntI
  split
  · have h2 : l.length ≤ t.toNat := by omega
    simp [List.getElem?_eq_none h2]
  · rfl

end Go.Proofs.YteokghghpmppnaaGreatDoor
