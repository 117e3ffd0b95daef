/- For every input the Go function PoolTurns of weighlocklaw06 returns true, and its arguments read afterwards as before. Conditions: none. -/
import Derived.Test.YtjkheoiebabkhaaRows
import Derived.WalkKit
import Derived.ProofKit
import Derived.OpenShut
import Derived.ChangeOld
import Derived.Below
import Derived.Carry
import Derived.Lib.Hide
import Derived.BigQuiet
import Derived.Deep.AppendLies
import Derived.Test.YtjkheoiebabkhaaPoolLaw
namespace Go.Proofs.Ytjkheoiebabkhaa.poolTurns
open Go.ChangeShapes Go.WideShapes Go.ChangeAt Go.RowKit
set_option linter.unusedVariables false

theorem own : ownKnob Try.prog.godebug = none := by kernel_rfl
theorem laidOut : laidOutB Try.prog = true := by kernel_rfl

/-! the walk -/
/-! what is taken, what is out -/
theorem TkS_own : True := trivial
/-- the pool of n threads with e nodes each, the first m of which are out -/
def tkS (n e m : Nat) : PS := { newS n e with out := fun id => decide (id ≤ m) }
/-- the same, all out but the first i -/
def bkS (n e i : Nat) : PS := { newS n e with out := fun id => decide (i < id) }
theorem tk_inv {n e m : Nat} (h : PInv (newS n e)) : PInv (tkS n e m) := ⟨h.n1, h.n2, h.T2, h.mem, h.all, h.nodup⟩
theorem bk_inv {n e m : Nat} (h : PInv (newS n e)) : PInv (bkS n e m) := ⟨h.n1, h.n2, h.T2, h.mem, h.all, h.nodup⟩
theorem tk_next (n e m : Nat) : (tkS n e m).setOut (m + 1) true = tkS n e (m + 1) := by
  unfold PS.setOut tkS
  simp only [PS.mk.injEq, true_and, and_true]
  funext id
  unfold upd
  by_cases h : id = m + 1
  · rw [if_pos h, h]; simp
  · rw [if_neg h]
    show decide (id ≤ m) = _
    by_cases h2 : id ≤ m
    · rw [decide_eq_true h2, decide_eq_true (by omega)]
    · rw [decide_eq_false h2, decide_eq_false (by omega)]
theorem bk_next (n e i : Nat) : (bkS n e i).setOut (i + 1) false = bkS n e (i + 1) := by
  unfold PS.setOut bkS
  simp only [PS.mk.injEq, true_and, and_true]
  funext id
  unfold upd
  by_cases h : id = i + 1
  · rw [if_pos h, h]; simp
  · rw [if_neg h]
    show decide (i < id) = _
    by_cases h2 : i < id
    · rw [decide_eq_true h2, decide_eq_true (by omega)]
    · rw [decide_eq_false h2, decide_eq_false (by omega)]
theorem find_range {f : Nat → Bool} : ∀ (n j : Nat), j < n → f j = true → (∀ i, i < j → f i = false) → (List.range n).find? f = some j := by
  intro n j hj hf hlt
  rw [List.find?_eq_some_iff_getElem]
  refine ⟨hf, j, by simpa using hj, by simp, fun i hi => ?_⟩
  simp only [List.getElem_range]
  rw [hlt i hi]
  rfl
theorem tk_pick {n e t j : Nat} (ht : t < n) (hj : j < e) : (tkS n e (t * e + j)).pick (t : Int) = some (t * e + j + 1) := by
  have hT : (tkS n e (t * e + j)).T = n := rfl
  unfold PS.pick
  rw [if_pos (by rw [hT]; omega), Int.toNat_natCast, show (tkS n e (t * e + j)).row t = (newS n e).row t from rfl, new_row ht, List.find?_map]
  have hle := Nat.mul_le_mul_right e (show t + 1 ≤ n by omega)
  rw [Nat.succ_mul] at hle
  have hn : (tkS n e (t * e + j)).n = n * e := rfl
  have h : (List.range e).find? ((fun id : Nat => !outI (tkS n e (t * e + j)) (id : Int)) ∘ fun i => t * e + i + 1) = some j := by
    refine find_range e j hj ?_ fun i hi => ?_
    · show (!outI (tkS n e (t * e + j)) ((t * e + j + 1 : Nat) : Int)) = true
      rw [outI_at (by omega) (by rw [hn]; omega)]
      show (!decide (t * e + j + 1 ≤ t * e + j)) = true
      simp
    · show (!outI (tkS n e (t * e + j)) ((t * e + i + 1 : Nat) : Int)) = false
      rw [outI_at (by omega) (by rw [hn]; omega)]
      show (!decide (t * e + i + 1 ≤ t * e + j)) = false
      simp only [Bool.not_eq_false', decide_eq_true_eq]
      omega
  rw [h]
  rfl
theorem tk_none {n e t : Nat} (ht : t < n) : (tkS n e (t * e + e)).pick (t : Int) = none := by
  have hT : (tkS n e (t * e + e)).T = n := rfl
  have hn : (tkS n e (t * e + e)).n = n * e := rfl
  have hle := Nat.mul_le_mul_right e (show t + 1 ≤ n by omega)
  rw [Nat.succ_mul] at hle
  unfold PS.pick
  rw [if_pos (by rw [hT]; omega), Int.toNat_natCast, show (tkS n e (t * e + e)).row t = (newS n e).row t from rfl, new_row ht, List.find?_eq_none]
  intro x hx
  simp only [List.mem_map, List.mem_range] at hx
  obtain ⟨i, hi, rfl⟩ := hx
  rw [outI_at (by omega) (by rw [hn]; omega)]
  show ¬ (!decide (t * e + i + 1 ≤ t * e + e)) = true
  simp only [Bool.not_eq_true', decide_eq_false_iff_not, Decidable.not_not]
  omega

/-- a pool that New made for this law -/
structure ZRel (w : World) (n : Nat) (s : PS) (q : Pp) (wr : World) : Prop where
  pool : PoolAt wr q s
  T : s.T = n
  new : ∀ k, q.F n k → w.heap.size ≤ k
  wrote : Wrote Nil w wr
theorem ZRel.turn {w wr wr' : World} {n : Nat} {s s' : PS} {q : Pp} (h : ZRel w n s q wr) (hP : PoolAt wr' q s') (hT : s'.T = n) (hW : Wrote (q.F s.T) wr wr') : ZRel w n s' q wr' :=
  ⟨hP, hT, h.new, h.wrote.trans hW fun b hb x => absurd (h.new b (by rw [← h.T]; exact x)) (by omega)⟩
theorem ZRel.congr {w wr : World} {n : Nat} {s s' : PS} {q : Pp} (h : ZRel w n s q wr) (hn : s'.n = s.n) (hT : s'.T = s.T) (ho : ∀ id, 1 ≤ id → id ≤ s.n → s'.own id = s.own id ∧ s'.out id = s.out id) (hr : ∀ t, t < s.T → s'.row t = s.row t) : ZRel w n s' q wr :=
  ⟨h.pool.congr hn hT ho hr, hT.trans h.T, h.new, h.wrote⟩
/-- a list of numbers of the law's own, beside the pool -/
structure ORel (w : World) (n m : Nat) (q : Pp) (so : Option Addr) (cp : Nat) (wr : World) : Prop where
  out : wr.ownsRow w.heap.size 3 1 (.slice so m cp) m ((ids m).map idv)
  far : ∀ b, (Value.slice so m cp).ownBlock = some b → ¬ q.F n b
theorem ORel.keep {w wr wr' : World} {n m : Nat} {q : Pp} {so : Option Addr} {cp : Nat} (h : ORel w n m q so cp wr) {S : Nat → Prop} (hW : Wrote S wr wr') (hS : ∀ b, S b → q.F n b) : ORel w n m q so cp wr' :=
  ⟨ownsRow_keep h.out fun b hb => hW.block b (h.out.lt b hb).2 fun x => h.far b hb (hS b x), h.far⟩

def TkPost (w : World) (n e a m : Nat) (q : Pp) (so : Option Addr) (cp : Nat) (r : Value) (en : Ending) (w' : World) : Prop := en = .returned r ∧ ZRel w n (tkS n e a) q w' ∧ ORel w n m q so cp w'
theorem take_tr {w wr : World} {n e t j : Nat} {q : Pp} {so : Option Addr} {cp m : Nat} (hI : PInv (newS n e)) (h : ZRel w n (tkS n e (t * e + j)) q wr) (ho : ORel w n m q so cp wr) (ht : t < n) (hj : j < e) :
    Calls Try.prog 10 #[.pointer (some ⟨q.p, 0, none⟩), .int .i64 (t : Int)] wr (TkPost w n e (t * e + j + 1) m q so cp (.tuple #[.int .i64 ((t * e + j : Nat) + 1 : Int), .int .i64 0])) := by
  refine (po_take_yes h.pool (tk_inv hI) (t : Int) _ (tk_pick ht hj)).mono ?_
  rintro en w' ⟨rfl, hP, hW⟩
  rw [tk_next] at hP
  exact ⟨by rw [Int.natCast_add, Int.natCast_one], h.turn hP rfl hW, ho.keep hW fun b x => x⟩
theorem take_end {w wr : World} {n e t : Nat} {q : Pp} {so : Option Addr} {cp m : Nat} (hI : PInv (newS n e)) (h : ZRel w n (tkS n e (t * e + e)) q wr) (ho : ORel w n m q so cp wr) (ht : t < n) :
    Calls Try.prog 10 #[.pointer (some ⟨q.p, 0, none⟩), .int .i64 (t : Int)] wr (TkPost w n e (t * e + e) m q so cp (.tuple #[.int .i64 0, .int .i64 6])) := by
  refine (po_take_no h.pool (tk_inv hI) (t : Int) (tk_none ht)).mono ?_
  rintro en w' ⟨rfl, hW⟩
  exact ⟨rfl, h.turn (h.pool.after hW) rfl (hW.mono fun _ _ x => x.elim), ho.keep hW fun b x => x.elim⟩
theorem of_tr {w wr : World} {n e t j : Nat} {q : Pp} (hI : PInv (newS n e)) (h : ZRel w n (tkS n e (t * e + j + 1)) q wr) (ht : t < n) (hj : j < e) :
    Calls Try.prog 17 #[.pointer (some ⟨q.p, 0, none⟩), .int .i64 ((t * e + j : Nat) + 1 : Int)] wr fun en w' => en = .returned (.int .i64 (t : Int)) ∧ wr = w' := by
  have hn : (newS n e).n = n * e := rfl
  have hle := Nat.mul_le_mul_right e (show t + 1 ≤ n by omega)
  rw [Nat.succ_mul] at hle
  have c := po_of h.pool (by have := hI.n2; show n * e ≤ _; omega) (((t * e + j + 1 : Nat)) : Int)
  rw [ofI_at (by omega) (show t * e + j + 1 ≤ n * e by omega), show (tkS n e (t * e + j + 1)).own (t * e + j + 1) = (t : Int) from mk_own (T := n) hj] at c
  rw [Int.natCast_add (t * e + j) 1, Int.natCast_one] at c
  exact c
theorem out_tr {w wr : World} {n e t j : Nat} {q : Pp} (hI : PInv (newS n e)) (h : ZRel w n (tkS n e (t * e + j + 1)) q wr) (ht : t < n) (hj : j < e) :
    Calls Try.prog 19 #[.pointer (some ⟨q.p, 0, none⟩), .int .i64 ((t * e + j : Nat) + 1 : Int)] wr fun en w' => en = .returned (.bool true) ∧ wr = w' := by
  have hn : (newS n e).n = n * e := rfl
  have hle := Nat.mul_le_mul_right e (show t + 1 ≤ n by omega)
  rw [Nat.succ_mul] at hle
  have c := po_out h.pool (by have := hI.n2; show n * e ≤ _; omega) (((t * e + j + 1 : Nat)) : Int)
  rw [outI_at (by omega) (show t * e + j + 1 ≤ n * e by omega), show (tkS n e (t * e + j + 1)).out (t * e + j + 1) = true from by show decide _ = true; simp] at c
  rw [Int.natCast_add (t * e + j) 1, Int.natCast_one] at c
  exact c
def BkPost (w : World) (n e i m : Nat) (q : Pp) (so : Option Addr) (cp : Nat) (en : Ending) (w' : World) : Prop := en = .returned (.int .i64 0) ∧ ZRel w n (bkS n e i) q w' ∧ ORel w n m q so cp w'
theorem back_tr {w wr : World} {n e i : Nat} {q : Pp} {so : Option Addr} {cp m : Nat} (hI : PInv (newS n e)) (h : ZRel w n (bkS n e i) q wr) (ho : ORel w n m q so cp wr) (hi : i < n * e) :
    Calls Try.prog 12 #[.pointer (some ⟨q.p, 0, none⟩), .int .i64 ((i : Int) + 1)] wr (BkPost w n e (i + 1) m q so cp) := by
  have hn : (bkS n e i).n = n * e := rfl
  have ho' : outI (bkS n e i) ((i : Int) + 1) = true := by
    have := outI_at (s := bkS n e i) (id := i + 1) (by omega) (by rw [hn]; omega)
    rw [Int.natCast_add, Int.natCast_one] at this
    rw [this]
    show decide (i < i + 1) = true
    simp
  refine (po_back h.pool (by have := hI.n2; show n * e ≤ _; have : (newS n e).n = n * e := rfl; omega) _).mono ?_
  rintro en w' ⟨rfl, hP, hW⟩
  have e1 : (bkS n e i).back ((i : Int) + 1) = bkS n e (i + 1) := by
    unfold PS.back
    rw [if_pos ⟨by omega, by rw [hn]; omega, ho'⟩, show ((i : Int) + 1).toNat = i + 1 by omega, bk_next]
  rw [e1] at hP
  refine ⟨?_, h.turn hP rfl hW, ho.keep hW fun b x => x⟩
  unfold backE
  rw [if_pos ⟨by omega, by rw [hn]; omega⟩, if_pos ho']
theorem outb_tr {w wr : World} {n e i : Nat} {q : Pp} (hI : PInv (newS n e)) (h : ZRel w n (bkS n e (i + 1)) q wr) (hi : i < n * e) :
    Calls Try.prog 19 #[.pointer (some ⟨q.p, 0, none⟩), .int .i64 ((i : Int) + 1)] wr fun en w' => en = .returned (.bool false) ∧ wr = w' := by
  have hn : (bkS n e (i + 1)).n = n * e := rfl
  have c := po_out h.pool (by have := hI.n2; show n * e ≤ _; have : (newS n e).n = n * e := rfl; omega) (((i + 1 : Nat)) : Int)
  rw [outI_at (by omega) (by rw [hn]; omega), show (bkS n e (i + 1)).out (i + 1) = false from by show decide _ = false; simp] at c
  rw [Int.natCast_add i 1, Int.natCast_one] at c
  exact c
/-- one number more in the list -/
theorem orel_more {w wr w1 : World} {n m : Nat} {s : PS} {q : Pp} {so : Option Addr} {cp g cp2 : Nat} (hz : ZRel w n s q wr) (h : ORel w n m q so cp wr) {o : Obj}
    (g1 : w1.ownsRow w.heap.size 3 1 (.slice (some ⟨g, 0, none⟩) (m + 1) cp2) (m + 1) ((ids m).map idv ++ [.int .i64 ((m : Int) + 1)])) (g2 : (wr.alloc o).grownBy w1 (Value.slice so m cp).ownBlock) (g3 : (Value.slice so m cp).ownBlock = some g ∨ g = (wr.alloc o).heap.size) :
    ZRel w n s q w1 ∧ ORel w n (m + 1) q (some ⟨g, 0, none⟩) cp2 w1 := by
  have hA : Wrote Nil wr (wr.alloc o) := (Wrote.refl _ _).alloc _
  have hW : Wrote (fun b => (Value.slice so m cp).ownBlock = some b) (wr.alloc o) w1 := (Wrote.refl _ _).grown g2 fun b hb _ => hb
  have hP := (hz.pool.after hA).wrote hW fun b hb e => h.far b e (by rw [← hz.T]; exact hb)
  refine ⟨⟨hP, hz.T, hz.new, (hz.wrote.nil hA).trans hW fun b hb e => absurd (h.out.lt b e).1 (by omega)⟩, ⟨?_, fun b hb hF => ?_⟩⟩
  · rw [ids_succ, List.map_append]
    exact g1
  · have hb' : g = b := by simpa [Value.ownBlock] using hb
    subst hb'
    rcases g3 with x | x
    · exact h.far _ x hF
    · have hF' : q.F s.T g := by rw [hz.T]; exact hF
      have := hz.pool.lt hF'
      have := hA.size
      omega
theorem orel_none (w wr : World) (n : Nat) (q : Pp) : ORel w n 0 q none 0 wr := ⟨World.ownsRow_nil _ _ _ _, fun b hb => by simp [Value.ownBlock] at hb⟩

def ZNew (w : World) (n e : Nat) (en : Ending) (w' : World) : Prop := ∃ q : Pp, en = .returned (.tuple #[.pointer (some ⟨q.p, 0, none⟩), .int .i64 0]) ∧ ZRel w n (tkS n e 0) q w'
theorem znew {w : World} {n e : Nat} (n1 : 1 ≤ n) (n2 : n ≤ 64) (e1 : 1 ≤ e) (e2 : e ≤ 8) : Calls Try.prog 7 #[.int .i64 (n : Int), .int .i64 (e : Int)] w (ZNew w n e) := by
  refine (po_new n e n1 n2 e1 e2 w).mono ?_
  rintro en w' ⟨q, rfl, hP, hF, hW⟩
  refine ⟨q, rfl, ZRel.congr (s := newS n e) ⟨hP, rfl, hF, hW⟩ rfl rfl (fun id h1 _ => ⟨rfl, ?_⟩) fun _ _ => rfl⟩
  show decide (id ≤ 0) = false
  exact decide_eq_false (by omega)

set_option maxRecDepth 100000 in
set_option maxHeartbeats 4000000 in
theorem walk (a0 : Int) (a1 : Int) (a2 : Int) (w : World) (w0 : (Lit.int .u8 a0).wf = true) (w1 : (Lit.int .u8 a1).wf = true) (w2 : (Lit.int .u8 a2).wf = true) :
    Calls Try.prog 5 #[.int .u8 a0, .int .u8 a1, .int .u8 a2] w fun e w' => e = .returned (.bool true) ∧ Below w.heap.size w w' := by
  obtain ⟨x0, x1⟩ := u8_bd w0
  obtain ⟨y0, y1⟩ := u8_bd w1
  obtain ⟨z0, z1⟩ := u8_bd w2
  clear w0 w1 w2
  obtain ⟨n, hn⟩ : ∃ n : Nat, 1 + a0 % 6 = (n : Int) := ⟨(1 + a0 % 6).toNat, by omega⟩
  obtain ⟨e, he⟩ : ∃ e : Nat, 1 + a1 % 8 = (e : Int) := ⟨(1 + a1 % 8).toNat, by omega⟩
  obtain ⟨r, hr⟩ : ∃ r : Nat, 1 + a2 % 3 = (r : Int) := ⟨(1 + a2 % 3).toNat, by omega⟩
  have n1 : 1 ≤ n := by omega
  have n2 : n ≤ 6 := by omega
  have e1 : 1 ≤ e := by omega
  have e2 : e ≤ 8 := by omega
  have r2 : r ≤ 3 := by omega
  have HN := Lib.hid hn
  have HE := Lib.hid he
  have HR := Lib.hid hr
  clear hn he hr
  go_enter Try.func5, Try.ntmps5
  go_wp2_with fail
  rw [HN.out, HE.out]
  go_wp2_with (go_at_call 7; with_reducible refine (znew n1 (by omega) e1 e2).mono ?_; intro en w1 h1; unfold ZNew at h1; obtain ⟨q, rfl, hZ⟩ := h1)
  rw [HR.out]
  obtain ⟨i0, hi, hz0, hz1, hz2⟩ := info_parts pinfo_int
  have hI := new_inv n1 (show n ≤ 64 by omega) e1 e2
  have hne : n * e ≤ 6 * 8 := Nat.mul_le_mul n2 e2
  have HI := Lib.hid (And.intro hI hne)
  clear hI hne x0 x1 y0 y1 z0 z1 HN HE HR
  go_loopw [43] (fun i wr => ∃ u : Nat, u ≤ r ∧ i = .int .i64 u ∧ ZRel w n (tkS n e 0) q wr) (fun i _ => r - (intOf i).toNat)
  case atStart => exact ⟨0, Nat.zero_le _, rfl, hZ⟩
  case round =>
    clear hZ
    obtain ⟨u, hu, rfl, hZ⟩ := hrel
    by_cases hur : u < r
    · have HZ0 := Lib.hid hZ
      clear hZ
      go_wp2
      go_loopw [46, 11] (fun i v wr => ∃ (t : Nat) (so : Option Addr) (cp : Nat), t ≤ n ∧ i = .int .i64 t ∧ v = .slice so (t * e) cp ∧ ZRel w n (tkS n e (t * e)) q wr ∧ ORel w n (t * e) q so cp wr) (fun i _ _ => n - (intOf i).toNat)
      case atStart => exact ⟨0, none, 0, Nat.zero_le _, rfl, by rw [Nat.zero_mul], by rw [Nat.zero_mul]; exact HZ0.out, by rw [Nat.zero_mul]; exact orel_none _ _ _ _⟩
      case round =>
        clear HZ0
        obtain ⟨t, so, cp, ht, rfl, rfl, hZ, hO⟩ := hrel
        by_cases htn : t < n
        · have HZ1 := Lib.hid (And.intro hZ hO)
          clear hZ hO
          go_wp2
          go_loopw [50, 11] (fun i v wr => ∃ (j : Nat) (so : Option Addr) (cp : Nat), j ≤ e ∧ i = .int .i64 j ∧ v = .slice so (t * e + j) cp ∧ ZRel w n (tkS n e (t * e + j)) q wr ∧ ORel w n (t * e + j) q so cp wr) (fun i _ _ => e - (intOf i).toNat)
          case atStart => exact ⟨0, so, cp, Nat.zero_le _, rfl, rfl, HZ1.out.1, HZ1.out.2⟩
          case round =>
            clear HZ1
            obtain ⟨j, so, cp, hj, rfl, rfl, hZ, hO⟩ := hrel
            have hle := Nat.mul_le_mul_right e (show t + 1 ≤ n by omega)
            rw [Nat.succ_mul] at hle
            by_cases hje : j < e
            · have cT := take_tr HI.out.1 hZ hO htn hje
              have cO := fun W (h : ZRel w n (tkS n e (t * e + j + 1)) q W) => of_tr HI.out.1 h htn hje
              have cU := fun W (h : ZRel w n (tkS n e (t * e + j + 1)) q W) => out_tr HI.out.1 h htn hje
              have hm9 : t * e + j ≤ 48 := by have := HI.out.2; omega
              obtain ⟨m, hm⟩ : ∃ m, m = t * e + j := ⟨_, rfl⟩
              rw [← hm] at cT cO cU hm9 ⊢
              have HMm := Lib.hid hm
              have hml : m + 1 ≤ maxLen := by unfold maxLen; omega
              clear hle hZ hO hm
              go_wp2_with (first
                | (go_at_call 10; with_reducible refine cT.mono ?_; intro en w2 h2; unfold TkPost at h2; obtain ⟨rfl, hZ2, hO2⟩ := h2; have hb2 : w.heap.size ≤ w2.heap.size := hZ2.wrote.size)
                | (go_at_call 17; with_reducible refine (cO _ hZ2).mono ?_; rintro en w' ⟨rfl, rfl⟩)
                | (go_at_call 19; with_reducible refine (cU _ hZ2).mono ?_; rintro en w' ⟨rfl, rfl⟩)
                | (at_builtin; refine wpList_append_lies _ (by rfl) (.tmp 73) (.tmp 75) 44 (by rfl) w.heap.size 3 i0 (.int .i64 0) 1 8 Try.underlying44 hi hz0 hz1 hz2 rfl (by decide) (.slice so m cp) m ((ids m).map idv) (by rfl) (hO2.out.alloc _) ⟨w2.heap.size, 0, none⟩ 1 1 [.int .i64 ((m : Int) + 1)] (by rfl) rfl (cell_one_new w2 _ _) (by simp [Value.oneCell']) (by decide) hml (by omega) (by rw [Go.Deep.nblk_alloc]; omega) _ rfl ?_; intro g cp2 w5 g1 g2 g3 g4; obtain ⟨hZ5, hO5⟩ := orel_more hZ2 hO2 g1 g2 g3; have H5 := Lib.hid (And.intro hZ5 hO5); clear g1 g2 g3 g4 hZ5 hO5))
              go_roundw
              case rel =>
                obtain rfl := HMm.out
                exact ⟨j + 1, some ⟨g, 0, none⟩, cp2, by omega, by go_num, rfl, H5.out.1, H5.out.2⟩
              case measure => simp [intOf]; omega
            · obtain rfl : j = e := by omega
              have cT := take_end HI.out.1 hZ hO htn
              clear hZ hO hle
              go_wp2_with (go_at_call 10; with_reducible refine cT.mono ?_; intro en w2 h2; unfold TkPost at h2; obtain ⟨rfl, hZ2, hO2⟩ := h2; have H2 := Lib.hid (And.intro hZ2 hO2); clear hZ2 hO2)
              go_roundw
              case rel => exact ⟨t + 1, so, cp, by omega, by go_num, by rw [Nat.succ_mul], by rw [Nat.succ_mul]; exact H2.out.1, by rw [Nat.succ_mul]; exact H2.out.2⟩
              case measure => simp [intOf]; omega
        · obtain rfl : t = n := by omega
          have hB : ZRel w t (bkS t e 0) q wr := ZRel.congr hZ rfl rfl (fun id h1 h2 => ⟨rfl, by
            have h2' : id ≤ t * e := h2
            show decide (0 < id) = decide (id ≤ t * e)
            rw [decide_eq_true (by omega), decide_eq_true h2']⟩) fun _ _ => rfl
          have HB := Lib.hid (And.intro hB hO)
          clear hZ hO hB
          go_wp2
          go_loopw [89] (fun i wr => ∃ k : Nat, k ≤ t * e ∧ i = .int .i64 k ∧ ZRel w t (bkS t e k) q wr ∧ ORel w t (t * e) q so cp wr) (fun i _ => t * e - (intOf i).toNat)
          case atStart => exact ⟨0, Nat.zero_le _, rfl, HB.out.1, HB.out.2⟩
          case round =>
            clear HB
            obtain ⟨k, hk, rfl, hZ, hO⟩ := hrel
            by_cases hkl : k < t * e
            · rcases row_cell hO.out with h0 | ⟨g, rfl, hc⟩
              · omega
              have c0 := hc k (k + 1) (ids_at hkl)
              rw [Int.natCast_add, Int.natCast_one] at c0
              have cB := back_tr HI.out.1 hZ hO hkl
              have cU := fun W (h : ZRel w t (bkS t e (k + 1)) q W) => outb_tr HI.out.1 h hkl
              have hk9 : k ≤ 48 := by have := HI.out.2; omega
              clear hZ hO hc
              go_wp2_with (first
                | (go_at_call 12; with_reducible refine cB.mono ?_; intro en w2 h2; unfold BkPost at h2; obtain ⟨rfl, hZ2, hO2⟩ := h2)
                | (go_at_call 19; with_reducible refine (cU _ hZ2).mono ?_; rintro en w' ⟨rfl, rfl⟩))
              go_roundw
              case rel => exact ⟨k + 1, by omega, by go_num, hZ2, hO2⟩
              case measure => simp [intOf]; omega
            · obtain rfl : k = t * e := by omega
              have hB : ZRel w t (tkS t e 0) q wr := ZRel.congr hZ rfl rfl (fun id h1 h2 => ⟨rfl, by
                have h2' : id ≤ t * e := h2
                show decide (id ≤ 0) = decide (t * e < id)
                rw [decide_eq_false (by omega), decide_eq_false (by omega)]⟩) fun _ _ => rfl
              have HB := Lib.hid hB
              clear hZ hO hB
              go_wp2
              go_roundw
              case rel => exact ⟨u + 1, by omega, by go_num, HB.out⟩
              case measure => simp [intOf]; omega
    · obtain rfl : u = r := by omega
      have cL : Calls Try.prog 18 #[.pointer (some ⟨q.p, 0, none⟩)] wr fun en w' => en = .returned (.int .i64 ((n : Int) * (e : Int))) ∧ wr = w' := by
        have c := po_len hZ.pool
        rw [show (tkS n e 0).n = n * e from rfl, Int.natCast_mul] at c
        exact c
      have hp0 : (0 : Int) ≤ (n : Int) * (e : Int) := Int.mul_nonneg (by omega) (by omega)
      have hp1 : (n : Int) * (e : Int) ≤ 48 := by
        have := HI.out.2
        rw [← Int.natCast_mul]
        omega
      have HW := Lib.hid hZ.wrote
      clear hZ
      go_wp2_with (first
        | (go_at_call 18; with_reducible refine cL.mono ?_; rintro en w' ⟨rfl, rfl⟩)
        | (go_at_call 6; refine (po_awake _).mono ?_; rintro en w9 ⟨rfl, hW9⟩))
      go_ret
      exact ⟨rfl, (HW.out.nil hW9).law⟩

/-! the row -/
set_option maxRecDepth 100000 in
theorem lifted (os : Os) (started : os.Started) (H : Type) (enc : TypeId × Value → H) :
    ReturnsInHanded {} Try.checked os 5 .any (Rows.poolTurnsSpec.pre6 enc Try.prog Try.f5 Rows.poolTurnsRow.domain false) (Rows.poolTurnsSpec.post enc Try.prog Try.f5 false true false false) := by
  refine returnsInHanded_of_change (C := Try.checked) own started (by kernel_rfl) Try.func5
    (ChangeSpec.witness6 (enc := enc) (C := Try.checked) false ⟨#[], #[.int .u8 0, .int .u8 0, .int .u8 0], []⟩ 8 (by kernel_rfl) (by kernel_rfl) (by kernel_rfl) (by kernel_rfl)) ?_
  intro W base args ds gs before hval0 hW hcnd _
  have hval : ∀ (j : Nat) t v, Try.f5.params[j]? = some t → args[j]? = some v → Value.okWide Try.prog W .any base t v := hval0
  have hW' := hW
  obtain ⟨p, q, hA0, hV, rfl, hfz, hnd⟩ := hW
  have hA : DataW.TrodAll enc Try.prog W 0 (fun _ => true) true Try.f5.params.toList args.toList ds p := hA0
  rw [Try.params5] at hA hval
  obtain ⟨v0, vs0, d0, ds0, p0, q0, hargs, rfl, rfl, h0, r0'⟩ := trodAll_cons hA
  obtain ⟨v1, vs1, d1, ds1, p1, q1, rfl, rfl, rfl, h1, r1'⟩ := trodAll_cons r0'
  obtain ⟨v2, vs2, d2, ds2, p2, q2, rfl, rfl, rfl, h2, r2'⟩ := trodAll_cons r1'
  obtain ⟨rfl, rfl, rfl⟩ := trodAll_nil r2'
  obtain rfl : args = #[v0, v1, v2] := by cases args; simp_all
  obtain ⟨rfl, rfl⟩ := trodVars_none hV
  obtain ⟨a0, rfl, rfl, rfl, w0⟩ := open_int Try.underlying5 (hval 0 5 v0 rfl rfl) h0
  obtain ⟨a1, rfl, rfl, rfl, w1⟩ := open_int Try.underlying5 (hval 1 5 v1 rfl rfl) h1
  obtain ⟨a2, rfl, rfl, rfl, w2⟩ := open_int Try.underlying5 (hval 2 5 v2 rfl rfl) h2
  clear hA0 hval0
  simp only [List.append_nil] at hW'
  refine (walk a0 a1 a2 W w0 w1 w2).mono fun e W' ⟨he, bel⟩ => ?_
  subst he
  exact ⟨_, rfl, _, _, _, [], [], [], hW', trodAll_mk1 (shut_bool Try.underlying4 _), (trodAll_cons_mk (shut_int Try.underlying5 w0) (trodAll_cons_mk (shut_int Try.underlying5 w1) (trodAll_cons_mk (shut_int Try.underlying5 w2) trodAll_mk0))), rfl, bel.frame _, fun h => by cases h⟩

theorem over : Rows.poolTurnsRow.holds Try.pinned (OpenSpec.ofChange Rows.poolTurnsSpec) :=
  OpenClaim.holds_of_wide 5 Try.f5 rfl rfl rfl rfl rfl rfl rfl ⟨rfl, rfl, rfl, rfl, rfl⟩ rfl rfl rfl rfl rfl (by kernel_rfl) Try.func5 (by kernel_rfl)
    (of_decide_eq_true (by kernel_rfl)) (by unfold Func.isWrapper; first | (rw [if_pos (by decide +kernel)]; kernel_rfl) | (rw [if_neg (by decide +kernel)]; exact ⟨rfl, rfl⟩))
    (fun os started H enc _ => lifted os started H enc)

/-- the statement -/
theorem proved : Rows.PoolTurnsSaid := over
#print axioms proved
end Go.Proofs.Ytjkheoiebabkhaa.poolTurns
