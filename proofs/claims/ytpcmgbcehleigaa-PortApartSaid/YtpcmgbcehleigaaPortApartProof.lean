/- For every input the Go function PortApart of weighlocklaw04 returns true, and its arguments read afterwards as before. Conditions: none. -/
import Derived.Test.YtpcmgbcehleigaaRows
import Derived.WalkKit
import Derived.ProofKit
import Derived.OpenShut
import Derived.ChangeOld
import Derived.Below
import Derived.Carry
import Derived.Test.YtpcmgbcehleigaaPortLaw
import Derived.Lib.Hide
namespace Go.Proofs.Ytpcmgbcehleigaa.portApart
open Go.ChangeShapes Go.WideShapes Go.ChangeAt Go.RowKit
set_option linter.unusedVariables false

theorem own : ownKnob Try.prog.godebug = none := by kernel_rfl
theorem laidOut : laidOutB Try.prog = true := by kernel_rfl

/-! the walk -/
theorem row_two {w : World} {k : IntKind} {y z : Int} {t : TypeId} {b : Nat} (hb : b = w.heap.size) : RowAt k (w.alloc (.cells #[.int k y, .int k z] t)) (some ⟨b, 0, none⟩) 2 [y, z] := by
  subst hb
  refine ⟨rfl, by simp, fun b hb j hj => ?_⟩
  obtain rfl : ⟨w.heap.size, 0, none⟩ = b := by simpa using hb
  have : j = 0 ∨ j = 1 := by omega
  rcases this with rfl | rfl <;> simp [Addr.add]
theorem bump_at (l : List Nat) (i : Nat) (b : Bool) (t : Nat) : (bump l i b).getD t 0 = if b = true ∧ t = i ∧ i < l.length then l.getD t 0 + 1 else l.getD t 0 := by
  cases b
  · simp [bump]
  · simp only [bump, if_pos, true_and]
    rw [List.getD_eq_getElem?_getD, List.getElem?_set]
    by_cases e : i = t
    · subst e
      by_cases h : i < l.length <;> simp [h]
    · rw [if_neg e, if_neg (fun x => e x.1.symm)]; rfl
/-- nobody has more writes or misses than accesses -/
def Inv (s : PSta) : Prop := ∀ t, s.wc.getD t 0 ≤ s.ac.getD t 0 ∧ s.mc.getD t 0 ≤ s.ac.getD t 0
theorem inv_do {s : PSta} (h : Inv s) (hv : s.wc.length = s.ac.length) (hm : s.mc.length = s.ac.length) (T K A old v : Int) : Inv (doS s T K A old v) := by
  unfold doS
  split
  · intro t
    obtain ⟨h1, h2⟩ := h t
    simp only [touchS]
    rw [bump_at, bump_at, bump_at, hv, hm]
    simp only [true_and]
    constructor
    · by_cases c : t = T.toNat ∧ T.toNat < s.ac.length
      · rw [if_pos c]
        split <;> omega
      · rw [if_neg c, if_neg (fun x => c x.2)]
        exact h1
    · by_cases c : t = T.toNat ∧ T.toNat < s.ac.length
      · rw [if_pos c]
        split <;> omega
      · rw [if_neg c, if_neg (fun x => c x.2)]
        exact h2
  · exact h
theorem do_ac (s : PSta) (T K A old v : Int) (t : Nat) : ((doS s T K A old v).ac.getD t 0 = s.ac.getD t 0 ∨ (doS s T K A old v).ac.getD t 0 = s.ac.getD t 0 + 1) ∧ (¬ (t : Int) = T → (doS s T K A old v).ac.getD t 0 = s.ac.getD t 0) := by
  unfold doS
  split
  · rename_i hok
    have ht : 0 ≤ T := by
      unfold okS okT at hok
      simp only [Bool.and_eq_true, decide_eq_true_eq] at hok
      exact hok.1.1
    simp only [touchS]
    rw [bump_at]
    simp only [true_and]
    by_cases c : t = T.toNat ∧ T.toNat < s.ac.length
    · rw [if_pos c]
      exact ⟨.inr rfl, fun hne => absurd (by omega) hne⟩
    · rw [if_neg c]
      exact ⟨.inl rfl, fun _ => rfl⟩
  · exact ⟨.inl rfl, fun _ => rfl⟩
theorem do_lens (s : PSta) (T K A old v : Int) : (doS s T K A old v).ac.length = s.ac.length ∧ (doS s T K A old v).D.length ≤ s.D.length + 1 := by
  unfold doS
  split
  · simp [touchS, bump_len]
  · simp

structure ASt (w0 : World) (q : Place) (s : PSta) (k : Nat) (w : World) : Prop where
  port : PortAt w q [0, 1] s
  wrote : Wrote Nil w0 w
  low : w0.heap.size ≤ q.k0 ∧ q.k3 ≤ w.heap.size
  inv : Inv s
  len : s.ac.length = 8
  num : s.D.length ≤ k
/-- within a round: the round's own access lies in x, what each thread had ahead of it in b -/
structure AMid (w0 : World) (q : Place) (s : PSta) (k : Nat) (x b : Nat) (T K A old v : Int) (f : Nat → Value) (w : World) : Prop where
  st : ASt w0 q s k w
  box : w.heap[x]? = some (.cells #[.int .i64 T, .int .i64 K, .int .i64 A, .int .u32 old, .int .u32 v] 34 (0, 0))
  was : w.rowIs b 54 8 f
  far : q.k3 ≤ x ∧ q.k3 ≤ b ∧ x ≠ b
section
variable {w0 w w' : World} {q : Place} {s : PSta} {k x b : Nat} {T K A old v : Int} {f : Nat → Value}
theorem AMid.b0 (h : AMid w0 q s k x b T K A old v f w) : w.cell? ⟨x, 0, none⟩ = some (.int .i64 T) := by rw [blk_cell h.box]; rfl
theorem AMid.b1 (h : AMid w0 q s k x b T K A old v f w) : w.cell? ⟨x, 1, none⟩ = some (.int .i64 K) := by rw [blk_cell h.box]; rfl
theorem AMid.b2 (h : AMid w0 q s k x b T K A old v f w) : w.cell? ⟨x, 2, none⟩ = some (.int .i64 A) := by rw [blk_cell h.box]; rfl
theorem AMid.b3 (h : AMid w0 q s k x b T K A old v f w) : w.cell? ⟨x, 3, none⟩ = some (.int .u32 old) := by rw [blk_cell h.box]; rfl
theorem AMid.b4 (h : AMid w0 q s k x b T K A old v f w) : w.cell? ⟨x, 4, none⟩ = some (.int .u32 v) := by rw [blk_cell h.box]; rfl
theorem ASt.after (h : ASt w0 q s k w) (K : Wrote Nil w w') : ASt w0 q s k w' := ⟨h.port.after K, h.wrote.nil K, ⟨h.low.1, Nat.le_trans h.low.2 K.size⟩, h.inv, h.len, h.num⟩
theorem AMid.after (h : AMid w0 q s k x b T K A old v f w) (J : Wrote Nil w w') : AMid w0 q s k x b T K A old v f w' :=
  ⟨h.st.after J, (J.block _ (blk_lt h.box) id).trans h.box, h.was.of_block (J.block _ h.was.lt id), h.far⟩
theorem amid_start (h : ASt w0 q s k w) (T K A old v : Int) :
    AMid w0 q s k w.heap.size (w.heap.size + 1) T K A old v (fun j => if j < 0 then .int .i64 ((s.ac.getD j 0 : Nat) : Int) else .int .i64 0) ((w.alloc (.cells #[.int .i64 T, .int .i64 K, .int .i64 A, .int .u32 old, .int .u32 v] 34)).alloc (.cells #[.int .i64 0, .int .i64 0, .int .i64 0, .int .i64 0, .int .i64 0, .int .i64 0, .int .i64 0, .int .i64 0] 54)) := by
  have n1 : (w.alloc (.cells #[.int .i64 T, .int .i64 K, .int .i64 A, .int .u32 old, .int .u32 v] 34)).heap.size = w.heap.size + 1 := Go.Deep.nblk_alloc _ _
  have hl := h.low.2
  refine ⟨h.after (((Wrote.refl Nil w).alloc _).alloc _), ?_, ?_, hl, by omega, by omega⟩
  · rw [Go.Deep.blk_alloc_lt _ _ _ (by omega), Go.Deep.blk_alloc_new]
  · have := World.rowIs_alloc (w.alloc (.cells #[.int .i64 T, .int .i64 K, .int .i64 A, .int .u32 old, .int .u32 v] 34)) #[.int .i64 0, .int .i64 0, .int .i64 0, .int .i64 0, .int .i64 0, .int .i64 0, .int .i64 0, .int .i64 0] 54 (fun j => if j < 0 then .int .i64 ((s.ac.getD j 0 : Nat) : Int) else .int .i64 0) (by
      intro i hi
      have h8 : i < 8 := hi
      have : i = 0 ∨ i = 1 ∨ i = 2 ∨ i = 3 ∨ i = 4 ∨ i = 5 ∨ i = 6 ∨ i = 7 := by omega
      rcases this with rfl | rfl | rfl | rfl | rfl | rfl | rfl | rfl <;> rfl)
    rw [n1] at this
    exact this
/-- what a thread had is kept -/
theorem AMid.keep {t : Nat} (h : AMid w0 q s k x b T K A old v (fun j => if j < t then .int .i64 ((s.ac.getD j 0 : Nat) : Int) else .int .i64 0) w) :
    AMid w0 q s k x b T K A old v (fun j => if j < t + 1 then .int .i64 ((s.ac.getD j 0 : Nat) : Int) else .int .i64 0) (w.setCell ⟨b, t, none⟩ (.int .i64 ((s.ac.getD t 0 : Nat) : Int))) := by
  have J : Wrote (One b) w (w.setCell ⟨b, t, none⟩ (.int .i64 ((s.ac.getD t 0 : Nat) : Int))) := (Wrote.refl _ _).setCell _ _ fun _ => rfl
  obtain ⟨f1, f2, f3⟩ := h.far
  have hl := h.st.low
  have hsz := h.st.wrote.size
  have P := h.st.port.place.le
  refine ⟨⟨h.st.port.wrote J (fun b' _ h3 e => by have e' : b' = b := e; omega), h.st.wrote.trans J (fun b' hb e => by have e' : b' = b := e; omega), ⟨hl.1, Nat.le_trans hl.2 J.size⟩, h.st.inv, h.st.len, h.st.num⟩, (J.block _ (blk_lt h.box) (fun e => f3 e)).trans h.box, (h.was.set t _).congr fun j hj => ?_, h.far⟩
  by_cases e : j = t
  · subst e; simp
  · by_cases e' : j < t
    · rw [if_neg e, if_pos e', if_pos (by omega)]
    · rw [if_neg e, if_neg e', if_neg (by omega)]
def AMidPost (w0 : World) (q : Place) (s : PSta) (k : Nat) (x b : Nat) (T K A old v : Int) (f : Nat → Value) (val : Value) (e : Ending) (w' : World) : Prop := e = .returned val ∧ AMid w0 q s k x b T K A old v f w'
theorem a_acc (h : AMid w0 q s k x b T K A old v f w) {val : Value} {s' : PSta} {c : Nat} {args : Array Value} (hs : s'.ac.length = s.ac.length ∧ s'.D.length ≤ s.D.length + 1) (hi : Inv s') (hc : Calls Try.prog c args w (AccPost q [0, 1] s' val w)) :
    Calls Try.prog c args w (AMidPost w0 q s' (k + 1) x b T K A old v f val) := by
  refine hc.mono ?_
  rintro e w' ⟨he, hP, hW⟩
  obtain ⟨f1, f2, f3⟩ := h.far
  have hl := h.st.low
  have hn := h.st.num
  have h8 := h.st.len
  exact ⟨he, ⟨hP, h.st.wrote.trans hW (fun b' hb e => by have := e.1; omega), ⟨hl.1, Nat.le_trans hl.2 hW.size⟩, hi, by omega, by omega⟩, (hW.block _ (blk_lt h.box) (fun e => by have := e.2; omega)).trans h.box, h.was.of_block (hW.block _ h.was.lt (fun e => by have := e.2; omega)), h.far⟩
theorem a_load (h : AMid w0 q s k x b T K A old v f w) (hk : k ≤ 100) :
    Calls Try.prog 11 #[.pointer (some ⟨q.p, 0, none⟩), .int .i64 T, .int .i64 A] w (AMidPost w0 q (doS s T 1 A 0 0) (k + 1) x b T K A old v f (.int .u32 (tellS s T 1 A))) :=
  a_acc h (do_lens _ _ _ _ _ _) (inv_do h.st.inv h.st.port.lv h.st.port.lm _ _ _ _ _) (pload_any h.st.port T A (by have := h.st.num; omega))
theorem a_swap (h : AMid w0 q s k x b T K A old v f w) (hk : k ≤ 100) (v0 : 0 ≤ v) (v1 : v < 4294967296) :
    Calls Try.prog 13 #[.pointer (some ⟨q.p, 0, none⟩), .int .i64 T, .int .i64 A, .int .u32 v] w (AMidPost w0 q (doS s T 3 A 0 v) (k + 1) x b T K A old v f (.int .u32 (tellS s T 3 A))) :=
  a_acc h (do_lens _ _ _ _ _ _) (inv_do h.st.inv h.st.port.lv h.st.port.lm _ _ _ _ _) (pswap_any h.st.port T A v v0 v1 (by have := h.st.num; omega))
theorem a_cas (h : AMid w0 q s k x b T K A old v f w) (hk : k ≤ 100) (v0 : 0 ≤ v) (v1 : v < 4294967296) :
    Calls Try.prog 14 #[.pointer (some ⟨q.p, 0, none⟩), .int .i64 T, .int .i64 A, .int .u32 old, .int .u32 v] w (AMidPost w0 q (doS s T 4 A old v) (k + 1) x b T K A old v f (.bool (okT s T A && casB s.ws A old))) :=
  a_acc h (do_lens _ _ _ _ _ _) (inv_do h.st.inv h.st.port.lv h.st.port.lm _ _ _ _ _) (pcas_any h.st.port T A old v v0 v1 (by have := h.st.num; omega))
end

set_option maxRecDepth 100000 in
set_option maxHeartbeats 4000000 in
theorem walk (s0 : Option Addr) (len0 cap0 : Nat) (z0 : Nat → Nat → Int) (w : World) (l0 : len0 ≤ cap0 ∧ cap0 ≤ maxLen ∧ (s0 = none → cap0 = 0)) (r0 : Structs w [.i64, .i64, .i64, .u32, .u32] s0 len0 z0) :
    Calls Try.prog 5 #[.slice s0 len0 cap0] w fun e w' => e = .returned (.bool true) ∧ Below w.heap.size w w' := by
  have hml : len0 ≤ 9223372036854775807 := by have := l0.1; have := l0.2.1; unfold maxLen at this; omega
  have hat := r0.at (by decide)
  have r1 : RowAt .i64 ((w.alloc (.cells #[.int .i64 0, .int .i64 1] 3)).alloc (.cells #[.int .u32 0, .int .u32 0] 32)) (some ⟨w.heap.size, 0, none⟩) 2 [0, 1] := (row_two rfl).after ((Wrote.refl Nil _).alloc _)
  have r2 : RowAt .u32 ((w.alloc (.cells #[.int .i64 0, .int .i64 1] 3)).alloc (.cells #[.int .u32 0, .int .u32 0] 32)) (some ⟨w.heap.size + 1, 0, none⟩) 2 [0, 0] := row_two (by rw [Go.Deep.nblk_alloc])
  have cN : Calls Try.prog 8 #[.int .i64 8, .slice (some ⟨w.heap.size, 0, none⟩) 2 2, .slice (some ⟨w.heap.size + 1, 0, none⟩) 2 2] ((w.alloc (.cells #[.int .i64 0, .int .i64 1] 3)).alloc (.cells #[.int .u32 0, .int .u32 0] 32)) (NewPortPost w [0, 1] (newS 8 [0, 0])) := pnew_good (w0 := w) (c1 := 2) (c2 := 2) (n := 8) (((Wrote.refl Nil w).alloc _).alloc _) r1 r2 (by intro j; rcases j with _ | _ | j <;> simp) (by decide) (by decide) (by decide) (by decide)
  clear r1 r2 r0 l0
  by_cases hbig : 60 < len0
  · go_enter Try.func5, Try.ntmps5
    go_wp2_with (first
      | (go_at_call 8; with_reducible refine cN.mono ?_; intro e w1 h1; unfold NewPortPost at h1; obtain ⟨q, rfl, hP1, k0, k3, hW1⟩ := h1)
      | (go_at_call 7; refine (awake_any _).mono ?_; rintro e w6 ⟨rfl, hW6⟩))
    go_ret
    exact ⟨rfl, (hW1.nil hW6).law⟩
  · go_enter Try.func5, Try.ntmps5
    go_wp2_with (first
      | (go_at_call 8; with_reducible refine cN.mono ?_; intro e w1 h1; unfold NewPortPost at h1; obtain ⟨q, rfl, hP1, k0, k3, hW1⟩ := h1))
    have hS0 : ASt w q (newS 8 [0, 0]) 0 w1 := ⟨hP1, hW1, ⟨k0, k3⟩, fun t => ⟨Nat.le_refl _, Nat.le_refl _⟩, by simp [newS], by simp [newS]⟩
    clear hP1 k0 k3 hW1 cN
    go_loopw [38] (fun i wr => ∃ (k : Nat) (s : PSta), k ≤ len0 ∧ i = .int .i64 k ∧ ASt w q s k wr) (fun i _ => len0 - (intOf i).toNat)
    case atStart => exact ⟨0, _, Nat.zero_le _, rfl, hS0⟩
    case round =>
      clear hS0
      obtain ⟨k, s, hk, rfl, hS⟩ := hrel
      by_cases hlt : k < len0
      · rcases hat with h0 | ⟨ob, oo, rfl, hc⟩
        · omega
        have q0 : wr.cell? ⟨ob, oo + k * 5, none⟩ = some (.int .i64 (z0 k 0)) := hS.wrote.old (hc k hlt 0 _ rfl).1
        have q1 : wr.cell? ⟨ob, oo + k * 5 + 1, none⟩ = some (.int .i64 (z0 k 1)) := hS.wrote.old (hc k hlt 1 _ rfl).1
        have q2 : wr.cell? ⟨ob, oo + k * 5 + 2, none⟩ = some (.int .i64 (z0 k 2)) := hS.wrote.old (hc k hlt 2 _ rfl).1
        have q3 : wr.cell? ⟨ob, oo + k * 5 + 3, none⟩ = some (.int .u32 (z0 k 3)) := hS.wrote.old (hc k hlt 3 _ rfl).1
        have q4 : wr.cell? ⟨ob, oo + k * 5 + 4, none⟩ = some (.int .u32 (z0 k 4)) := hS.wrote.old (hc k hlt 4 _ rfl).1
        obtain ⟨v0, v1⟩ := u32_bd (hc k hlt 4 _ rfl).2
        generalize z0 k 0 = T at q0
        generalize z0 k 1 = K at q1
        generalize z0 k 2 = A at q2
        generalize z0 k 3 = old at q3
        generalize z0 k 4 = v at q4 v0 v1
        have hM0 := amid_start hS T K A old v
        have HC := Lib.hid (And.intro hc hM0)
        clear hc hM0 hS
        go_wp2
        have hM := HC.out.2
        clear q0 q1 q2 q3 q4
        generalize ((wr.alloc (.cells #[.int .i64 T, .int .i64 K, .int .i64 A, .int .u32 old, .int .u32 v] 34)).alloc (.cells #[.int .i64 0, .int .i64 0, .int .i64 0, .int .i64 0, .int .i64 0, .int .i64 0, .int .i64 0, .int .i64 0] 54)) = X0 at hM ⊢
        have HC := Lib.hid HC.out.1
        generalize wr.heap.size + 1 = b at hM ⊢
        generalize wr.heap.size = x at hM ⊢
        go_loopw [42] (fun i wr => ∃ t : Nat, t ≤ 8 ∧ i = .int .i64 t ∧ AMid w q s k x b T K A old v (fun j => if j < t then .int .i64 ((s.ac.getD j 0 : Nat) : Int) else .int .i64 0) wr) (fun i _ => 8 - (intOf i).toNat)
        case atStart => exact ⟨0, Nat.zero_le _, rfl, hM⟩
        case round =>
          clear hM
          obtain ⟨t, ht, rfl, hM⟩ := hrel
          by_cases ht8 : t < 8
          · have cA := paccesses_any hM.st.port (t : Int)
            rw [cntI_at] at cA
            have e1 := hM.was.cell ht8
            rw [if_neg (Nat.lt_irrefl t)] at e1
            have e2 := hM.was.frozen t
            have e3 : (t : Int) < 8 := by omega
            have HM := Lib.hid hM.keep
            clear hM
            generalize s.ac.getD t 0 = a at cA HM
            go_wp2_with (go_at_call 22; with_reducible refine cA.mono ?_; rintro e w' ⟨rfl, hw'⟩; subst w')
            go_roundw
            case rel => exact ⟨t + 1, by omega, by go_num, HM.out⟩
            case measure => simp [intOf]; omega
          · obtain rfl : t = 8 := by omega
            have b0 := hM.b0
            have b1 := hM.b1
            have b2 := hM.b2
            have b3 := hM.b3
            have b4 := hM.b4
            have e3 : ¬ ((8 : Nat) : Int) < 8 := by omega
            have c1 := fun (h : K = 1) => a_load hM (by omega)
            have c3 := a_swap hM (by omega) v0 v1
            have c4 := a_cas hM (by omega) v0 v1
            have HM := Lib.hid hM
            clear hM ht8 ht
            by_cases k1 : K = 1
            · subst k1
              have c1 := c1 rfl
              clear c3 c4
              go_wp2_with (go_at_call 11; with_reducible refine c1.mono ?_; intro e w3 h3; unfold AMidPost at h3; obtain ⟨rfl, hN⟩ := h3)
              obtain ⟨s', hN, hac⟩ : ∃ s', AMid w q s' (k + 1) x b T 1 A old v (fun j => if j < 8 then .int .i64 ((s.ac.getD j 0 : Nat) : Int) else .int .i64 0) w3 ∧ ∀ t : Nat, (s'.ac.getD t 0 = s.ac.getD t 0 ∨ s'.ac.getD t 0 = s.ac.getD t 0 + 1) ∧ (¬ (t : Int) = T → s'.ac.getD t 0 = s.ac.getD t 0) := ⟨_, hN, fun t => do_ac s T _ A _ _ t⟩
              have HA := Lib.hid hac
              have HM3 := Lib.hid hN
              clear hac hN HM
              go_loopw [81] (fun i wr => ∃ t : Nat, t ≤ 8 ∧ i = .int .i64 t ∧ AMid w q s' (k + 1) x b T 1 A old v (fun j => if j < 8 then .int .i64 ((s.ac.getD j 0 : Nat) : Int) else .int .i64 0) wr) (fun i _ => 8 - (intOf i).toNat)
              case atStart => exact ⟨0, Nat.zero_le _, rfl, HM3.out⟩
              case round =>
                clear HM3
                obtain ⟨t, ht, rfl, hM⟩ := hrel
                by_cases ht8 : t < 8
                · have cA := fun u => paccesses_any (hM.st.port.after ((Wrote.refl Nil wr).drewN u)) (t : Int)
                  have cW := fun u => pwrites_any (hM.st.port.after ((Wrote.refl Nil wr).drewN u)) (t : Int)
                  have cM := fun u => pmisses_any (hM.st.port.after ((Wrote.refl Nil wr).drewN u)) (t : Int)
                  rw [cntI_at] at cA cW cM
                  have f1 := hM.was.cell ht8
                  rw [if_pos ht8] at f1
                  have f2 := hM.b0
                  have f3 : (t : Int) < 8 := by omega
                  have f4 : (0 : Int) ≤ t := by omega
                  obtain ⟨i1, i2⟩ := hM.st.inv t
                  obtain ⟨a1, a2⟩ := HA.out t
                  have rA : s.ac.getD t 0 ≤ 200 := by have h1 := getD_le hM.st.port.rngA t; have h2 := hM.st.num; omega
                  obtain ⟨y, hy⟩ : ∃ y, y = s.ac.getD t 0 := ⟨_, rfl⟩
                  obtain ⟨z, hz⟩ : ∃ z, z = s'.ac.getD t 0 := ⟨_, rfl⟩
                  obtain ⟨p, hp⟩ : ∃ p, p = s'.wc.getD t 0 := ⟨_, rfl⟩
                  obtain ⟨m, hm⟩ : ∃ m, m = s'.mc.getD t 0 := ⟨_, rfl⟩
                  rw [← hz] at cA i1 i2 a1 a2
                  rw [← hy] at f1 a1 a2 rA
                  rw [← hp] at cW i1
                  rw [← hm] at cM i2
                  have g1 : decide ((y : Int) + 1 < z) = false := decide_eq_false (by omega)
                  have g2 : decide ((z : Int) < p) = false := decide_eq_false (by omega)
                  have g3 : decide ((z : Int) < m) = false := decide_eq_false (by omega)
                  have g2' : decide (z < p) = false := decide_eq_false (by omega)
                  have g3' : decide (z < m) = false := decide_eq_false (by omega)
                  have g4 : (y : Int) + 1 ≤ 9223372036854775807 := by omega
                  have HX := Lib.hid hM
                  clear hM hy hz hp hm i1 i2 a1
                  by_cases hT : (t : Int) = T
                  · have h1 : ((t : Int) != T) = false := by simp [hT]
                    clear hT a2
                    go_wp2
                    go_big_quiet (first
                      | (go_at_call 22; exact (cA _).mono fun _ _ h => ⟨h.1, _, h.2⟩)
                      | (go_at_call 23; exact (cW _).mono fun _ _ h => ⟨h.1, _, h.2⟩)
                      | (go_at_call 24; exact (cM _).mono fun _ _ h => ⟨h.1, _, h.2⟩))
                    go_wp2
                    go_roundw
                    case rel => exact ⟨t + 1, by omega, by go_num, HX.out.after ((Wrote.refl Nil wr).drewN _)⟩
                    case measure => simp [intOf]; omega
                  · have h1 : ((t : Int) != T) = true := by simp [hT]
                    have h2 := a2 hT
                    subst h2
                    clear hT a2
                    go_wp2
                    go_big_quiet (first
                      | (go_at_call 22; exact (cA _).mono fun _ _ h => ⟨h.1, _, h.2⟩)
                      | (go_at_call 23; exact (cW _).mono fun _ _ h => ⟨h.1, _, h.2⟩)
                      | (go_at_call 24; exact (cM _).mono fun _ _ h => ⟨h.1, _, h.2⟩))
                    go_wp2
                    go_roundw
                    case rel => exact ⟨t + 1, by omega, by go_num, HX.out.after ((Wrote.refl Nil wr).drewN _)⟩
                    case measure => simp [intOf]; omega
                · go_wp2
                  go_roundw
                  case rel => exact ⟨k + 1, s', by omega, by go_num, hM.st⟩
                  case measure => simp [intOf]; omega
            by_cases k3 : K = 3
            · subst k3
              clear c1 c4 k1
              go_wp2_with (go_at_call 13; with_reducible refine c3.mono ?_; intro e w3 h3; unfold AMidPost at h3; obtain ⟨rfl, hN⟩ := h3)
              obtain ⟨s', hN, hac⟩ : ∃ s', AMid w q s' (k + 1) x b T 3 A old v (fun j => if j < 8 then .int .i64 ((s.ac.getD j 0 : Nat) : Int) else .int .i64 0) w3 ∧ ∀ t : Nat, (s'.ac.getD t 0 = s.ac.getD t 0 ∨ s'.ac.getD t 0 = s.ac.getD t 0 + 1) ∧ (¬ (t : Int) = T → s'.ac.getD t 0 = s.ac.getD t 0) := ⟨_, hN, fun t => do_ac s T _ A _ _ t⟩
              have HA := Lib.hid hac
              have HM3 := Lib.hid hN
              clear hac hN HM
              go_loopw [81] (fun i wr => ∃ t : Nat, t ≤ 8 ∧ i = .int .i64 t ∧ AMid w q s' (k + 1) x b T 3 A old v (fun j => if j < 8 then .int .i64 ((s.ac.getD j 0 : Nat) : Int) else .int .i64 0) wr) (fun i _ => 8 - (intOf i).toNat)
              case atStart => exact ⟨0, Nat.zero_le _, rfl, HM3.out⟩
              case round =>
                clear HM3
                obtain ⟨t, ht, rfl, hM⟩ := hrel
                by_cases ht8 : t < 8
                · have cA := fun u => paccesses_any (hM.st.port.after ((Wrote.refl Nil wr).drewN u)) (t : Int)
                  have cW := fun u => pwrites_any (hM.st.port.after ((Wrote.refl Nil wr).drewN u)) (t : Int)
                  have cM := fun u => pmisses_any (hM.st.port.after ((Wrote.refl Nil wr).drewN u)) (t : Int)
                  rw [cntI_at] at cA cW cM
                  have f1 := hM.was.cell ht8
                  rw [if_pos ht8] at f1
                  have f2 := hM.b0
                  have f3 : (t : Int) < 8 := by omega
                  have f4 : (0 : Int) ≤ t := by omega
                  obtain ⟨i1, i2⟩ := hM.st.inv t
                  obtain ⟨a1, a2⟩ := HA.out t
                  have rA : s.ac.getD t 0 ≤ 200 := by have h1 := getD_le hM.st.port.rngA t; have h2 := hM.st.num; omega
                  obtain ⟨y, hy⟩ : ∃ y, y = s.ac.getD t 0 := ⟨_, rfl⟩
                  obtain ⟨z, hz⟩ : ∃ z, z = s'.ac.getD t 0 := ⟨_, rfl⟩
                  obtain ⟨p, hp⟩ : ∃ p, p = s'.wc.getD t 0 := ⟨_, rfl⟩
                  obtain ⟨m, hm⟩ : ∃ m, m = s'.mc.getD t 0 := ⟨_, rfl⟩
                  rw [← hz] at cA i1 i2 a1 a2
                  rw [← hy] at f1 a1 a2 rA
                  rw [← hp] at cW i1
                  rw [← hm] at cM i2
                  have g1 : decide ((y : Int) + 1 < z) = false := decide_eq_false (by omega)
                  have g2 : decide ((z : Int) < p) = false := decide_eq_false (by omega)
                  have g3 : decide ((z : Int) < m) = false := decide_eq_false (by omega)
                  have g2' : decide (z < p) = false := decide_eq_false (by omega)
                  have g3' : decide (z < m) = false := decide_eq_false (by omega)
                  have g4 : (y : Int) + 1 ≤ 9223372036854775807 := by omega
                  have HX := Lib.hid hM
                  clear hM hy hz hp hm i1 i2 a1
                  by_cases hT : (t : Int) = T
                  · have h1 : ((t : Int) != T) = false := by simp [hT]
                    clear hT a2
                    go_wp2
                    go_big_quiet (first
                      | (go_at_call 22; exact (cA _).mono fun _ _ h => ⟨h.1, _, h.2⟩)
                      | (go_at_call 23; exact (cW _).mono fun _ _ h => ⟨h.1, _, h.2⟩)
                      | (go_at_call 24; exact (cM _).mono fun _ _ h => ⟨h.1, _, h.2⟩))
                    go_wp2
                    go_roundw
                    case rel => exact ⟨t + 1, by omega, by go_num, HX.out.after ((Wrote.refl Nil wr).drewN _)⟩
                    case measure => simp [intOf]; omega
                  · have h1 : ((t : Int) != T) = true := by simp [hT]
                    have h2 := a2 hT
                    subst h2
                    clear hT a2
                    go_wp2
                    go_big_quiet (first
                      | (go_at_call 22; exact (cA _).mono fun _ _ h => ⟨h.1, _, h.2⟩)
                      | (go_at_call 23; exact (cW _).mono fun _ _ h => ⟨h.1, _, h.2⟩)
                      | (go_at_call 24; exact (cM _).mono fun _ _ h => ⟨h.1, _, h.2⟩))
                    go_wp2
                    go_roundw
                    case rel => exact ⟨t + 1, by omega, by go_num, HX.out.after ((Wrote.refl Nil wr).drewN _)⟩
                    case measure => simp [intOf]; omega
                · go_wp2
                  go_roundw
                  case rel => exact ⟨k + 1, s', by omega, by go_num, hM.st⟩
                  case measure => simp [intOf]; omega
            · clear c1 c3
              go_wp2_with (go_at_call 14; with_reducible refine c4.mono ?_; intro e w3 h3; unfold AMidPost at h3; obtain ⟨rfl, hN⟩ := h3)
              obtain ⟨s', hN, hac⟩ : ∃ s', AMid w q s' (k + 1) x b T K A old v (fun j => if j < 8 then .int .i64 ((s.ac.getD j 0 : Nat) : Int) else .int .i64 0) w3 ∧ ∀ t : Nat, (s'.ac.getD t 0 = s.ac.getD t 0 ∨ s'.ac.getD t 0 = s.ac.getD t 0 + 1) ∧ (¬ (t : Int) = T → s'.ac.getD t 0 = s.ac.getD t 0) := ⟨_, hN, fun t => do_ac s T _ A _ _ t⟩
              have HA := Lib.hid hac
              have HM3 := Lib.hid hN
              clear hac hN HM
              go_loopw [81] (fun i wr => ∃ t : Nat, t ≤ 8 ∧ i = .int .i64 t ∧ AMid w q s' (k + 1) x b T K A old v (fun j => if j < 8 then .int .i64 ((s.ac.getD j 0 : Nat) : Int) else .int .i64 0) wr) (fun i _ => 8 - (intOf i).toNat)
              case atStart => exact ⟨0, Nat.zero_le _, rfl, HM3.out⟩
              case round =>
                clear HM3
                obtain ⟨t, ht, rfl, hM⟩ := hrel
                by_cases ht8 : t < 8
                · have cA := fun u => paccesses_any (hM.st.port.after ((Wrote.refl Nil wr).drewN u)) (t : Int)
                  have cW := fun u => pwrites_any (hM.st.port.after ((Wrote.refl Nil wr).drewN u)) (t : Int)
                  have cM := fun u => pmisses_any (hM.st.port.after ((Wrote.refl Nil wr).drewN u)) (t : Int)
                  rw [cntI_at] at cA cW cM
                  have f1 := hM.was.cell ht8
                  rw [if_pos ht8] at f1
                  have f2 := hM.b0
                  have f3 : (t : Int) < 8 := by omega
                  have f4 : (0 : Int) ≤ t := by omega
                  obtain ⟨i1, i2⟩ := hM.st.inv t
                  obtain ⟨a1, a2⟩ := HA.out t
                  have rA : s.ac.getD t 0 ≤ 200 := by have h1 := getD_le hM.st.port.rngA t; have h2 := hM.st.num; omega
                  obtain ⟨y, hy⟩ : ∃ y, y = s.ac.getD t 0 := ⟨_, rfl⟩
                  obtain ⟨z, hz⟩ : ∃ z, z = s'.ac.getD t 0 := ⟨_, rfl⟩
                  obtain ⟨p, hp⟩ : ∃ p, p = s'.wc.getD t 0 := ⟨_, rfl⟩
                  obtain ⟨m, hm⟩ : ∃ m, m = s'.mc.getD t 0 := ⟨_, rfl⟩
                  rw [← hz] at cA i1 i2 a1 a2
                  rw [← hy] at f1 a1 a2 rA
                  rw [← hp] at cW i1
                  rw [← hm] at cM i2
                  have g1 : decide ((y : Int) + 1 < z) = false := decide_eq_false (by omega)
                  have g2 : decide ((z : Int) < p) = false := decide_eq_false (by omega)
                  have g3 : decide ((z : Int) < m) = false := decide_eq_false (by omega)
                  have g2' : decide (z < p) = false := decide_eq_false (by omega)
                  have g3' : decide (z < m) = false := decide_eq_false (by omega)
                  have g4 : (y : Int) + 1 ≤ 9223372036854775807 := by omega
                  have HX := Lib.hid hM
                  clear hM hy hz hp hm i1 i2 a1
                  by_cases hT : (t : Int) = T
                  · have h1 : ((t : Int) != T) = false := by simp [hT]
                    clear hT a2
                    go_wp2
                    go_big_quiet (first
                      | (go_at_call 22; exact (cA _).mono fun _ _ h => ⟨h.1, _, h.2⟩)
                      | (go_at_call 23; exact (cW _).mono fun _ _ h => ⟨h.1, _, h.2⟩)
                      | (go_at_call 24; exact (cM _).mono fun _ _ h => ⟨h.1, _, h.2⟩))
                    go_wp2
                    go_roundw
                    case rel => exact ⟨t + 1, by omega, by go_num, HX.out.after ((Wrote.refl Nil wr).drewN _)⟩
                    case measure => simp [intOf]; omega
                  · have h1 : ((t : Int) != T) = true := by simp [hT]
                    have h2 := a2 hT
                    subst h2
                    clear hT a2
                    go_wp2
                    go_big_quiet (first
                      | (go_at_call 22; exact (cA _).mono fun _ _ h => ⟨h.1, _, h.2⟩)
                      | (go_at_call 23; exact (cW _).mono fun _ _ h => ⟨h.1, _, h.2⟩)
                      | (go_at_call 24; exact (cM _).mono fun _ _ h => ⟨h.1, _, h.2⟩))
                    go_wp2
                    go_roundw
                    case rel => exact ⟨t + 1, by omega, by go_num, HX.out.after ((Wrote.refl Nil wr).drewN _)⟩
                    case measure => simp [intOf]; omega
                · go_wp2
                  go_roundw
                  case rel => exact ⟨k + 1, s', by omega, by go_num, hM.st⟩
                  case measure => simp [intOf]; omega
      · go_wp2_with (go_at_call 7; refine (awake_any _).mono ?_; rintro e w6 ⟨rfl, hW6⟩)
        go_ret
        exact ⟨rfl, (hS.wrote.nil hW6).law⟩

/-! the row -/
set_option maxRecDepth 100000 in
theorem lifted (os : Os) (started : os.Started) (H : Type) (enc : TypeId × Value → H) :
    ReturnsInHanded {} Try.checked os 5 .any (Rows.portApartSpec.pre6 enc Try.prog Try.f5 Rows.portApartRow.domain false) (Rows.portApartSpec.post enc Try.prog Try.f5 false true false false) := by
  refine returnsInHanded_of_change (C := Try.checked) own started (by kernel_rfl) Try.func5
    (ChangeSpec.witness6 (enc := enc) (C := Try.checked) false ⟨#[], #[.slice none 0 0], []⟩ 8 (by kernel_rfl) (by kernel_rfl) (by kernel_rfl) (by kernel_rfl)) ?_
  intro W base args ds gs before hval0 hW hcnd _
  have hval : ∀ (j : Nat) t v, Try.f5.params[j]? = some t → args[j]? = some v → Value.okWide Try.prog W .any base t v := hval0
  have hW' := hW
  obtain ⟨p, q, hA0, hV, rfl, hfz, hnd⟩ := hW
  have hA : DataW.TrodAll enc Try.prog W 0 (fun _ => true) true Try.f5.params.toList args.toList ds p := hA0
  rw [Try.params5] at hA hval
  obtain ⟨v0, vs0, d0, ds0, p0, q0, hargs, rfl, rfl, h0, r0'⟩ := trodAll_cons hA
  obtain ⟨rfl, rfl, rfl⟩ := trodAll_nil r0'
  obtain rfl : args = #[v0] := by cases args; simp_all
  obtain ⟨rfl, rfl⟩ := trodVars_none hV
  have k0 := h0
  have lt0 : ∀ x ∈ p0, x.block < W.heap.size := by obtain ⟨m, hm⟩ := k0; exact DataW.trod_lt m _ _ _ hm
  obtain ⟨s0, len0, cap0, rfl⟩ := okWide_slice Try.underlying23 (hval 0 23 v0 rfl rfl)
  obtain ⟨l0, z0, r0⟩ := open_slice_ints (ks := [.i64, .i64, .i64, .u32, .u32]) Try.underlying23 Try.underlying34 (by kernel_rfl) (by kernel_rfl) h0
  clear hA0 hval0
  refine (walk s0 len0 cap0 z0 W l0 r0).mono fun e W' ⟨he, bel⟩ => ?_
  subst he
  exact ⟨_, rfl, _, _, _, [], _, [], hW', trodAll_mk1 (shut_bool Try.underlying4 _), (trodAll_cons_mk (Below.trod laidOut (by kernel_rfl) (of_decide_eq_true (by kernel_rfl)) k0 bel lt0) trodAll_mk0), rfl, bel.frame _, fun h => by cases h⟩

theorem over : Rows.portApartRow.holds Try.pinned (OpenSpec.ofChange Rows.portApartSpec) :=
  OpenClaim.holds_of_wide 5 Try.f5 rfl rfl rfl rfl rfl rfl rfl ⟨rfl, rfl, rfl, rfl, rfl⟩ rfl rfl rfl rfl rfl (by kernel_rfl) Try.func5 (by kernel_rfl)
    (of_decide_eq_true (by kernel_rfl)) (by unfold Func.isWrapper; first | (rw [if_pos (by decide +kernel)]; kernel_rfl) | (rw [if_neg (by decide +kernel)]; exact ⟨rfl, rfl⟩))
    (fun os started H enc _ => lifted os started H enc)

/-- the statement -/
theorem proved : Rows.PortApartSaid := over
#print axioms proved
end Go.Proofs.Ytpcmgbcehleigaa.portApart
