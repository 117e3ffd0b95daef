/- For every input the Go function PortPlays of weighlocklaw04 returns true, and its arguments read afterwards as before. Conditions: none. -/
import Derived.Test.YtpcmgbcehleigaaRows
import Derived.WalkKit
import Derived.ProofKit
import Derived.OpenShut
import Derived.ChangeOld
import Derived.Below
import Derived.Carry
import Derived.Test.YtpcmgbcehleigaaPortLaw
import Derived.Lib.Hide
import Derived.Test.YtpcmgbcehleigaaPortSame
namespace Go.Proofs.Ytpcmgbcehleigaa.portPlays
open Go.ChangeShapes Go.WideShapes Go.ChangeAt Go.RowKit
set_option linter.unusedVariables false

theorem own : ownKnob Try.prog.godebug = none := by kernel_rfl
theorem laidOut : laidOutB Try.prog = true := by kernel_rfl

/-! the walk -/
/-- the port and the reference's, both in the state s -/
structure PlSt (w0 : World) (base : Nat) (q : Place) (r : Nat) (hs : List Int) (s : PSta) (w : World) : Prop where
  port : PortAt w q hs s
  ref : RefSt w base r s
  wrote : Wrote Nil w0 w
  low : w0.heap.size ≤ q.k0 ∧ q.k3 ≤ base ∧ base ≤ w.heap.size
/-- within a round: the reference's may be ahead; the round's own access lies in the block x -/
structure PlMid (w0 : World) (base : Nat) (q : Place) (r : Nat) (hs : List Int) (s s' : PSta) (x : Nat) (T K A old v : Int) (w : World) : Prop where
  port : PortAt w q hs s
  ref : RefSt w base r s'
  wrote : Wrote Nil w0 w
  low : w0.heap.size ≤ q.k0 ∧ q.k3 ≤ base ∧ base ≤ w.heap.size
  box : w.heap[x]? = some (.cells #[.int .i64 T, .int .i64 K, .int .i64 A, .int .u32 old, .int .u32 v] 34 (0, 0))
  far : base ≤ x
section
variable {w0 w : World} {base : Nat} {q : Place} {r : Nat} {hs : List Int} {s s' : PSta} {x : Nat} {T K A old v : Int}
theorem PlMid.b0 (h : PlMid w0 base q r hs s s' x T K A old v w) : w.cell? ⟨x, 0, none⟩ = some (.int .i64 T) := by rw [blk_cell h.box]; rfl
theorem PlMid.b1 (h : PlMid w0 base q r hs s s' x T K A old v w) : w.cell? ⟨x, 1, none⟩ = some (.int .i64 K) := by rw [blk_cell h.box]; rfl
theorem PlMid.b2 (h : PlMid w0 base q r hs s s' x T K A old v w) : w.cell? ⟨x, 2, none⟩ = some (.int .i64 A) := by rw [blk_cell h.box]; rfl
theorem PlMid.b3 (h : PlMid w0 base q r hs s s' x T K A old v w) : w.cell? ⟨x, 3, none⟩ = some (.int .u32 old) := by rw [blk_cell h.box]; rfl
theorem PlMid.b4 (h : PlMid w0 base q r hs s s' x T K A old v w) : w.cell? ⟨x, 4, none⟩ = some (.int .u32 v) := by rw [blk_cell h.box]; rfl

def MidPost (w0 : World) (base : Nat) (q : Place) (r : Nat) (hs : List Int) (s s' : PSta) (x : Nat) (T K A old v : Int) (val : Value) (e : Ending) (w' : World) : Prop := e = .returned val ∧ PlMid w0 base q r hs s s' x T K A old v w'
/-- the reference's access -/
theorem pl_do (h : PlSt w0 base q r hs s w) (T K A old v : Int) (v0 : 0 ≤ v) (v1 : v < 4294967296) (hD : s.D.length < 1000000) :
    Calls Try.prog 10 #[.pointer (some ⟨r, 0, none⟩), .int .i64 T, .agg #[.int .i64 K, .int .i64 A, .int .u32 old, .int .u32 v]] (w.alloc (.cells #[.int .i64 T, .int .i64 K, .int .i64 A, .int .u32 old, .int .u32 v] 34))
      (MidPost w0 base q r hs s (doS s T K A old v) w.heap.size T K A old v (.tuple #[.int .u32 (tellS s T K A), .int .i64 (didS s T K A old)])) := by
  obtain ⟨bk, so, cap, dv, hR⟩ := h.ref
  have l1 := blk_lt hR.obj
  have l2 := hR.counts.lt
  have l3 := hR.touched.lt
  obtain ⟨o1, o2, o3⟩ := hR.low
  obtain ⟨p1, p2, p3⟩ := h.low
  have K1 : Wrote Nil w (w.alloc (.cells #[.int .i64 T, .int .i64 K, .int .i64 A, .int .u32 old, .int .u32 v] 34)) := (Wrote.refl _ _).alloc _
  have hn : (w.alloc (.cells #[.int .i64 T, .int .i64 K, .int .i64 A, .int .u32 old, .int .u32 v] 34)).heap.size = w.heap.size + 1 := Go.Deep.nblk_alloc _ _
  refine (rdo_any (hR.after K1 fun _ _ => id) T K A old v v0 v1 hD h.port.words h.port.threads (by omega)).mono ?_
  rintro e w' ⟨he, hR', hW⟩
  have hb : (w.alloc (.cells #[.int .i64 T, .int .i64 K, .int .i64 A, .int .u32 old, .int .u32 v] 34)).heap[w.heap.size]? = some (.cells #[.int .i64 T, .int .i64 K, .int .i64 A, .int .u32 old, .int .u32 v] 34 (0, 0)) := Go.Deep.blk_alloc_new _ _
  have hf : ∀ k, Foot r bk dv k → base ≤ k ∧ k < w.heap.size := by
    intro k hk
    rcases hk with rfl | rfl | hk
    · exact ⟨o1, l1⟩
    · exact ⟨o2, l2⟩
    · exact l3 k hk
  refine ⟨he, (h.port.after K1).wrote hW (fun b h0 h3 e => by have := (hf b e).1; omega), hR', (h.wrote.nil K1).trans hW (fun b hb e => by have := (hf b e).1; have := h.wrote.size; have P := h.port.place.le; omega), ⟨p1, p2, by have := hW.size; omega⟩, ?_, p3⟩
  exact (hW.block _ (by omega) (fun e => by have := (hf _ e).2; omega)).trans hb
/-- an access of the port -/
theorem pl_port {s1 : PSta} {w' : World} (h : PlMid w0 base q r hs s s' x T K A old v w) (hP : PortAt w' q hs s1) (hW : Wrote (Rng q.k0 q.k3) w w') : PlMid w0 base q r hs s1 s' x T K A old v w' := by
  obtain ⟨bk, so, cap, dv, hR⟩ := h.ref
  obtain ⟨p1, p2, p3⟩ := h.low
  refine ⟨hP, ⟨bk, so, cap, dv, hR.after hW (fun b hb e => by have := e.2; omega)⟩, h.wrote.trans hW (fun b hb e => by have := e.1; omega), ⟨p1, p2, Nat.le_trans p3 hW.size⟩, ?_, h.far⟩
  exact (hW.block _ (blk_lt h.box) (fun e => by have := e.2; have := h.far; omega)).trans h.box
theorem doS_1 (s : PSta) (T A old v : Int) : doS s T 1 A 0 0 = doS s T 1 A old v := by simp [doS, doL]
theorem doS_2 (s : PSta) (T A old v : Int) : doS s T 2 A 0 v = doS s T 2 A old v := by simp [doS, doL]
theorem doS_3 (s : PSta) (T A old v : Int) : doS s T 3 A 0 v = doS s T 3 A old v := by simp [doS, doL]
theorem doS_5 (s : PSta) (T A old v : Int) : doS s T 5 A 0 v = doS s T 5 A old v := by simp [doS, doL]
theorem pl_load (h : PlMid w0 base q r hs s (doS s T 1 A old v) x T 1 A old v w) (hD : s.D.length < 1000000) :
    Calls Try.prog 11 #[.pointer (some ⟨q.p, 0, none⟩), .int .i64 T, .int .i64 A] w (MidPost w0 base q r hs (doS s T 1 A old v) (doS s T 1 A old v) x T 1 A old v (.int .u32 (tellS s T 1 A))) := by
  have c := pload_any h.port T A (by omega)
  rw [doS_1 s T A old v] at c
  exact c.mono fun e w' h' => ⟨h'.1, pl_port h h'.2.1 h'.2.2⟩
theorem pl_store (h : PlMid w0 base q r hs s (doS s T 2 A old v) x T 2 A old v w) (v0 : 0 ≤ v) (v1 : v < 4294967296) (hD : s.D.length < 1000000) :
    Calls Try.prog 12 #[.pointer (some ⟨q.p, 0, none⟩), .int .i64 T, .int .i64 A, .int .u32 v] w (MidPost w0 base q r hs (doS s T 2 A old v) (doS s T 2 A old v) x T 2 A old v (.tuple #[])) := by
  have c := pstore_any h.port T A v v0 v1 (by omega)
  rw [doS_2 s T A old v] at c
  exact c.mono fun e w' h' => ⟨h'.1, pl_port h h'.2.1 h'.2.2⟩
theorem pl_swap (h : PlMid w0 base q r hs s (doS s T 3 A old v) x T 3 A old v w) (v0 : 0 ≤ v) (v1 : v < 4294967296) (hD : s.D.length < 1000000) :
    Calls Try.prog 13 #[.pointer (some ⟨q.p, 0, none⟩), .int .i64 T, .int .i64 A, .int .u32 v] w (MidPost w0 base q r hs (doS s T 3 A old v) (doS s T 3 A old v) x T 3 A old v (.int .u32 (tellS s T 3 A))) := by
  have c := pswap_any h.port T A v v0 v1 (by omega)
  rw [doS_3 s T A old v] at c
  exact c.mono fun e w' h' => ⟨h'.1, pl_port h h'.2.1 h'.2.2⟩
theorem pl_cas (h : PlMid w0 base q r hs s (doS s T 4 A old v) x T 4 A old v w) (v0 : 0 ≤ v) (v1 : v < 4294967296) (hD : s.D.length < 1000000) :
    Calls Try.prog 14 #[.pointer (some ⟨q.p, 0, none⟩), .int .i64 T, .int .i64 A, .int .u32 old, .int .u32 v] w (MidPost w0 base q r hs (doS s T 4 A old v) (doS s T 4 A old v) x T 4 A old v (.bool (okT s T A && casB s.ws A old))) :=
  (pcas_any h.port T A old v v0 v1 (by omega)).mono fun e w' h' => ⟨h'.1, pl_port h h'.2.1 h'.2.2⟩
theorem pl_add (h : PlMid w0 base q r hs s (doS s T 5 A old v) x T 5 A old v w) (v0 : 0 ≤ v) (v1 : v < 4294967296) (hD : s.D.length < 1000000) :
    Calls Try.prog 15 #[.pointer (some ⟨q.p, 0, none⟩), .int .i64 T, .int .i64 A, .int .u32 v] w (MidPost w0 base q r hs (doS s T 5 A old v) (doS s T 5 A old v) x T 5 A old v (.int .u32 (tellS s T 5 A))) := by
  have c := padd_any h.port T A v v0 v1 (by omega)
  rw [doS_5 s T A old v] at c
  exact c.mono fun e w' h' => ⟨h'.1, pl_port h h'.2.1 h'.2.2⟩
def StPost (w0 : World) (base : Nat) (q : Place) (r : Nat) (hs : List Int) (s : PSta) (val : Value) (e : Ending) (w' : World) : Prop := e = .returned val ∧ PlSt w0 base q r hs s w'
theorem pl_same (h : PlMid w0 base q r hs s s x T K A old v w) :
    Calls Try.prog 16 #[.pointer (some ⟨q.p, 0, none⟩), .pointer (some ⟨r, 0, none⟩)] w (StPost w0 base q r hs s (.bool true)) := by
  refine (same_any h.port h.ref).mono ?_
  rintro e w' ⟨he, hW⟩
  obtain ⟨bk, so, cap, dv, hR⟩ := h.ref
  obtain ⟨p1, p2, p3⟩ := h.low
  exact ⟨he, h.port.after hW, ⟨bk, so, cap, dv, hR.after hW fun _ _ => id⟩, h.wrote.nil hW, p1, p2, Nat.le_trans p3 hW.size⟩
theorem doS_lens (s : PSta) (t K a old v : Int) : (doS s t K a old v).D.length ≤ s.D.length + 1 := by
  unfold doS
  split
  · simp [touchS]
  · omega
theorem tell_no (s : PSta) (T K A : Int) (h : ¬ (K = 1 ∨ K = 3 ∨ K = 5)) : tellS s T K A = 0 := by
  unfold tellS tellI
  rw [if_neg h]
  split <;> rfl
theorem did_no (s : PSta) (T K A old : Int) (h : ¬ K = 4) : didS s T K A old = 0 := by
  unfold didS
  split
  · unfold didI
    rw [if_neg (fun x => h x.1)]
  · rfl
theorem did_cas (s : PSta) (T A old : Int) : didS s T 4 A old = if (okT s T A && casB s.ws A old) then 1 else 0 := by
  unfold didS didI okS
  cases okT s T A
  · rfl
  · cases casB s.ws A old <;> rfl
theorem doS_no (s : PSta) (T K A old v : Int) (h : K < 1 ∨ 5 < K) : doS s T K A old v = s := by
  have hok : okS s T K A = false := by
    unfold okS
    rw [show decide (1 ≤ K ∧ K ≤ 5) = false from decide_eq_false (by omega), Bool.and_false]
  unfold doS
  rw [hok]
  rfl
end

set_option maxRecDepth 100000 in
set_option maxHeartbeats 4000000 in
theorem walk (a0 : Int) (s1 : Option Addr) (len1 cap1 : Nat) (z1 : List Int) (s2 : Option Addr) (len2 cap2 : Nat) (z2 : Nat → Nat → Int) (w : World) (w0 : (Lit.int .u8 a0).wf = true) (l1 : len1 ≤ cap1 ∧ cap1 ≤ maxLen ∧ (s1 = none → cap1 = 0)) (r1 : RowAt .u32 w s1 len1 z1) (w1 : ∀ z ∈ z1, (Lit.int .u32 z).wf = true) (l2 : len2 ≤ cap2 ∧ cap2 ≤ maxLen ∧ (s2 = none → cap2 = 0)) (r2 : Structs w [.i64, .i64, .i64, .u32, .u32] s2 len2 z2) :
    Calls Try.prog 3 #[.int .u8 a0, .slice s1 len1 cap1, .slice s2 len2 cap2] w fun e w' => e = .returned (.bool true) ∧ Below w.heap.size w w' := by
  obtain ⟨u0, u1⟩ := u8_bd w0
  have hml1 : len1 ≤ 9223372036854775807 := by have := l1.1; have := l1.2.1; unfold maxLen at this; omega
  have hml2 : len2 ≤ 9223372036854775807 := by have := l2.1; have := l2.2.1; unfold maxLen at this; omega
  obtain ⟨n, rfl⟩ := Int.eq_ofNat_of_zero_le u0
  by_cases hbad : n < 1 ∨ (¬ n < 1 ∧ 8 < n) ∨ (¬ n < 1 ∧ ¬ 8 < n ∧ 20 < len1) ∨ (¬ n < 1 ∧ ¬ 8 < n ∧ ¬ 20 < len1 ∧ 60 < len2)
  · clear w0 w1 l1 l2 r1 r2
    rcases hbad with k | ⟨k, k'⟩ | ⟨k, k', k''⟩ | ⟨k, k', k'', k3⟩
    all_goals
      go_enter Try.func3, Try.ntmps3
      go_wp2_with (go_at_call 7; refine (awake_any _).mono ?_; rintro e w6 ⟨rfl, hW6⟩)
      go_ret
      exact ⟨rfl, hW6.law⟩
  have k1 : ¬ n < 1 := by omega
  have k2 : ¬ 8 < n := by omega
  have k3 : ¬ 20 < len1 := by omega
  have k4 : ¬ 60 < len2 := by omega
  have hmk1 := Go.run_make_row' (P := Try.prog) 29 3 (.int .i64 0) 8 Try.underlying29 info_int rfl .i64 .i64 len1 (by omega) (by omega)
  have hat := r2.at (by decide)
  have rh : RowAt .i64 (w.alloc (.cells (madeCells #[.int .i64 0] len1) 3)) (some ⟨w.heap.size, 0, none⟩) len1 (List.replicate len1 0) := row_made rfl
  have cN := pnew_good (w0 := w) (c1 := len1) (c2 := cap1) (n := n) ((Wrote.refl Nil w).alloc _) rh (r1.after ((Wrote.refl Nil w).alloc _)) (wf_getD w1) (by omega) (by omega) (by omega) (home_rep len1)
  have cR := fun w2 (h : Wrote Nil w w2) => rnew_any (w := w2) (c := cap1) (n := n) (r1.after h) (fun z hz => u32_bd (w1 z hz)) (by omega) (by omega)
  have hl1 := r1.len
  clear hbad r1 r2 w0 w1 rh
  go_enter Try.func3, Try.ntmps3
  go_wp2_with (first
    | (go_at_call 8; with_reducible refine cN.mono ?_; intro e w1 h1; unfold NewPortPost at h1; obtain ⟨q, rfl, hP1, k0, q3, hW1⟩ := h1)
    | (go_at_call 9; with_reducible refine (cR _ hW1).mono ?_; intro e w2 h2; unfold RNewPost at h2; obtain ⟨r, rfl, hR2, hW2⟩ := h2))
  have hS0 : PlSt w w1.heap.size q r (List.replicate len1 0) (newS n z1) w2 := ⟨hP1.after hW2, hR2, hW1.nil hW2, k0, q3, hW2.size⟩
  clear hP1 hR2 hW1 hW2 k0 q3 cN cR hmk1
  generalize w1.heap.size = base at hS0
  go_loopw [55] (fun i wr => ∃ (k : Nat) (s : PSta), k ≤ len2 ∧ i = .int .i64 k ∧ PlSt w base q r (List.replicate len1 0) s wr ∧ Hid (s.D.length ≤ k)) (fun i _ => len2 - (intOf i).toNat)
  case atStart => exact ⟨0, _, Nat.zero_le _, rfl, hS0, Lib.hid (Nat.zero_le _)⟩
  case round =>
    clear hS0
    obtain ⟨k, s, hk, rfl, hS, hD⟩ := hrel
    by_cases hlt : k < len2
    · rcases hat with h0 | ⟨ob, oo, rfl, hc⟩
      · omega
      have q0 : wr.cell? ⟨ob, oo + k * 5, none⟩ = some (.int .i64 (z2 k 0)) := hS.wrote.old (hc k hlt 0 _ rfl).1
      have q1 : wr.cell? ⟨ob, oo + k * 5 + 1, none⟩ = some (.int .i64 (z2 k 1)) := hS.wrote.old (hc k hlt 1 _ rfl).1
      have q2 : wr.cell? ⟨ob, oo + k * 5 + 2, none⟩ = some (.int .i64 (z2 k 2)) := hS.wrote.old (hc k hlt 2 _ rfl).1
      have q3 : wr.cell? ⟨ob, oo + k * 5 + 3, none⟩ = some (.int .u32 (z2 k 3)) := hS.wrote.old (hc k hlt 3 _ rfl).1
      have q4 : wr.cell? ⟨ob, oo + k * 5 + 4, none⟩ = some (.int .u32 (z2 k 4)) := hS.wrote.old (hc k hlt 4 _ rfl).1
      obtain ⟨v0, v1⟩ := u32_bd (hc k hlt 4 _ rfl).2
      generalize z2 k 0 = T at q0
      generalize z2 k 1 = K at q1
      generalize z2 k 2 = A at q2
      generalize z2 k 3 = old at q3
      generalize z2 k 4 = v at q4 v0 v1
      have hDk : s.D.length < 1000000 := by have := hD.out; omega
      have cD := pl_do hS T K A old v v0 v1 hDk
      have hD' : Hid ((doS s T K A old v).D.length ≤ k + 1) := Lib.hid (by have := hD.out; have := doS_lens s T K A old v; omega)
      have HC := Lib.hid hc
      clear hc hS
      by_cases e1 : K = 1
      · subst e1
        rw [did_no s T 1 A old (by decide)] at cD
        go_wp2_with (first
          | (go_at_call 10; with_reducible refine cD.mono ?_; intro e w3 h3; unfold MidPost at h3; obtain ⟨rfl, hM⟩ := h3; have b0 := hM.b0; have b1 := hM.b1; have b2 := hM.b2; have cL := pl_load hM hDk; clear hM)
          | (go_at_call 11; with_reducible refine cL.mono ?_; intro e w4 h4; unfold MidPost at h4; obtain ⟨rfl, hM⟩ := h4; have cS := pl_same hM; clear hM b0 b1 b2)
          | (go_at_call 16; with_reducible refine cS.mono ?_; intro e w5 h5; unfold StPost at h5; obtain ⟨rfl, hS5⟩ := h5))
        go_roundw
        case rel => exact ⟨k + 1, _, by omega, by go_num, hS5, hD'⟩
        case measure => simp [intOf]; omega
      by_cases e2 : K = 2
      · subst e2
        clear e1
        rw [did_no s T 2 A old (by decide), tell_no s T 2 A (by decide)] at cD
        go_wp2_with (first
          | (go_at_call 10; with_reducible refine cD.mono ?_; intro e w3 h3; unfold MidPost at h3; obtain ⟨rfl, hM⟩ := h3; have b0 := hM.b0; have b1 := hM.b1; have b2 := hM.b2; have b4 := hM.b4; have cL := pl_store hM v0 v1 hDk; clear hM)
          | (go_at_call 12; with_reducible refine cL.mono ?_; intro e w4 h4; unfold MidPost at h4; obtain ⟨rfl, hM⟩ := h4; have cS := pl_same hM; clear hM b0 b1 b2 b4)
          | (go_at_call 16; with_reducible refine cS.mono ?_; intro e w5 h5; unfold StPost at h5; obtain ⟨rfl, hS5⟩ := h5))
        go_roundw
        case rel => exact ⟨k + 1, _, by omega, by go_num, hS5, hD'⟩
        case measure => simp [intOf]; omega
      by_cases e3 : K = 3
      · subst e3
        clear e1 e2
        rw [did_no s T 3 A old (by decide)] at cD
        go_wp2_with (first
          | (go_at_call 10; with_reducible refine cD.mono ?_; intro e w3 h3; unfold MidPost at h3; obtain ⟨rfl, hM⟩ := h3; have b0 := hM.b0; have b1 := hM.b1; have b2 := hM.b2; have b4 := hM.b4; have cL := pl_swap hM v0 v1 hDk; clear hM)
          | (go_at_call 13; with_reducible refine cL.mono ?_; intro e w4 h4; unfold MidPost at h4; obtain ⟨rfl, hM⟩ := h4; have cS := pl_same hM; clear hM b0 b1 b2 b4)
          | (go_at_call 16; with_reducible refine cS.mono ?_; intro e w5 h5; unfold StPost at h5; obtain ⟨rfl, hS5⟩ := h5))
        go_roundw
        case rel => exact ⟨k + 1, _, by omega, by go_num, hS5, hD'⟩
        case measure => simp [intOf]; omega
      by_cases e4 : K = 4
      · subst e4
        clear e1 e2 e3
        rw [tell_no s T 4 A (by decide), did_cas s T A old] at cD
        have cC := fun w3 (h : PlMid w base q r (List.replicate len1 0) s (doS s T 4 A old v) wr.heap.size T 4 A old v w3) => pl_cas h v0 v1 hDk
        obtain ⟨b, hb⟩ : ∃ b, b = (okT s T A && casB s.ws A old) := ⟨_, rfl⟩
        rw [← hb] at cD cC
        clear hb
        cases b
        · rw [if_neg (by decide)] at cD
          go_wp2_with (first
            | (go_at_call 10; with_reducible refine cD.mono ?_; intro e w3 h3; unfold MidPost at h3; obtain ⟨rfl, hM⟩ := h3; have b0 := hM.b0; have b1 := hM.b1; have b2 := hM.b2; have b3 := hM.b3; have b4 := hM.b4; have cL := cC _ hM; clear hM)
            | (go_at_call 14; with_reducible refine cL.mono ?_; intro e w4 h4; unfold MidPost at h4; obtain ⟨rfl, hM⟩ := h4; have cS := pl_same hM; clear hM b0 b1 b2 b3 b4)
            | (go_at_call 16; with_reducible refine cS.mono ?_; intro e w5 h5; unfold StPost at h5; obtain ⟨rfl, hS5⟩ := h5))
          go_roundw
          case rel => exact ⟨k + 1, _, by omega, by go_num, hS5, hD'⟩
          case measure => simp [intOf]; omega
        · rw [if_pos rfl] at cD
          go_wp2_with (first
            | (go_at_call 10; with_reducible refine cD.mono ?_; intro e w3 h3; unfold MidPost at h3; obtain ⟨rfl, hM⟩ := h3; have b0 := hM.b0; have b1 := hM.b1; have b2 := hM.b2; have b3 := hM.b3; have b4 := hM.b4; have cL := cC _ hM; clear hM)
            | (go_at_call 14; with_reducible refine cL.mono ?_; intro e w4 h4; unfold MidPost at h4; obtain ⟨rfl, hM⟩ := h4; have cS := pl_same hM; clear hM b0 b1 b2 b3 b4)
            | (go_at_call 16; with_reducible refine cS.mono ?_; intro e w5 h5; unfold StPost at h5; obtain ⟨rfl, hS5⟩ := h5))
          go_roundw
          case rel => exact ⟨k + 1, _, by omega, by go_num, hS5, hD'⟩
          case measure => simp [intOf]; omega
      by_cases e5 : K = 5
      · subst e5
        clear e1 e2 e3 e4
        rw [did_no s T 5 A old (by decide)] at cD
        go_wp2_with (first
          | (go_at_call 10; with_reducible refine cD.mono ?_; intro e w3 h3; unfold MidPost at h3; obtain ⟨rfl, hM⟩ := h3; have b0 := hM.b0; have b1 := hM.b1; have b2 := hM.b2; have b4 := hM.b4; have cL := pl_add hM v0 v1 hDk; clear hM)
          | (go_at_call 15; with_reducible refine cL.mono ?_; intro e w4 h4; unfold MidPost at h4; obtain ⟨rfl, hM⟩ := h4; have cS := pl_same hM; clear hM b0 b1 b2 b4)
          | (go_at_call 16; with_reducible refine cS.mono ?_; intro e w5 h5; unfold StPost at h5; obtain ⟨rfl, hS5⟩ := h5))
        go_roundw
        case rel => exact ⟨k + 1, _, by omega, by go_num, hS5, hD'⟩
        case measure => simp [intOf]; omega
      · have hno : K < 1 ∨ 5 < K := by omega
        have hs := doS_no s T K A old v hno
        rw [did_no s T K A old e4, tell_no s T K A (by omega), hs] at cD
        rw [hs] at hD'
        clear hno hs
        go_wp2_with (first
          | (go_at_call 10; with_reducible refine cD.mono ?_; intro e w3 h3; unfold MidPost at h3; obtain ⟨rfl, hM⟩ := h3; have b1 := hM.b1; have cS := pl_same hM; clear hM)
          | (go_at_call 16; with_reducible refine cS.mono ?_; intro e w5 h5; unfold StPost at h5; obtain ⟨rfl, hS5⟩ := h5))
        go_roundw
        case rel => exact ⟨k + 1, _, by omega, by go_num, hS5, hD'⟩
        case measure => simp [intOf]; omega
    · go_wp2_with (go_at_call 7; refine (awake_any _).mono ?_; rintro e w6 ⟨rfl, hW6⟩)
      go_ret
      exact ⟨rfl, (hS.wrote.nil hW6).law⟩

/-! the row -/
set_option maxRecDepth 100000 in
theorem lifted (os : Os) (started : os.Started) (H : Type) (enc : TypeId × Value → H) :
    ReturnsInHanded {} Try.checked os 3 .any (Rows.portPlaysSpec.pre6 enc Try.prog Try.f3 Rows.portPlaysRow.domain false) (Rows.portPlaysSpec.post enc Try.prog Try.f3 false true false false) := by
  refine returnsInHanded_of_change (C := Try.checked) own started (by kernel_rfl) Try.func3
    (ChangeSpec.witness6 (enc := enc) (C := Try.checked) false ⟨#[], #[.int .u8 0, .slice none 0 0, .slice none 0 0], []⟩ 8 (by kernel_rfl) (by kernel_rfl) (by kernel_rfl) (by kernel_rfl)) ?_
  intro W base args ds gs before hval0 hW hcnd _
  have hval : ∀ (j : Nat) t v, Try.f3.params[j]? = some t → args[j]? = some v → Value.okWide Try.prog W .any base t v := hval0
  have hW' := hW
  obtain ⟨p, q, hA0, hV, rfl, hfz, hnd⟩ := hW
  have hA : DataW.TrodAll enc Try.prog W 0 (fun _ => true) true Try.f3.params.toList args.toList ds p := hA0
  rw [Try.params3] at hA hval
  obtain ⟨v0, vs0, d0, ds0, p0, q0, hargs, rfl, rfl, h0, r0'⟩ := trodAll_cons hA
  obtain ⟨v1, vs1, d1, ds1, p1, q1, rfl, rfl, rfl, h1, r1'⟩ := trodAll_cons r0'
  obtain ⟨v2, vs2, d2, ds2, p2, q2, rfl, rfl, rfl, h2, r2'⟩ := trodAll_cons r1'
  obtain ⟨rfl, rfl, rfl⟩ := trodAll_nil r2'
  obtain rfl : args = #[v0, v1, v2] := by cases args; simp_all
  obtain ⟨rfl, rfl⟩ := trodVars_none hV
  obtain ⟨a0, rfl, rfl, rfl, w0⟩ := open_int Try.underlying5 (hval 0 5 v0 rfl rfl) h0
  have k1 := h1
  have lt1 : ∀ x ∈ p1, x.block < W.heap.size := by obtain ⟨m, hm⟩ := k1; exact DataW.trod_lt m _ _ _ hm
  obtain ⟨s1, len1, cap1, rfl⟩ := okWide_slice Try.underlying22 (hval 1 22 v1 rfl rfl)
  obtain ⟨l1, z1, r1, w1⟩ := open_slice_row Try.underlying22 Try.underlying32 (by kernel_rfl) h1
  have k2 := h2
  have lt2 : ∀ x ∈ p2, x.block < W.heap.size := by obtain ⟨m, hm⟩ := k2; exact DataW.trod_lt m _ _ _ hm
  obtain ⟨s2, len2, cap2, rfl⟩ := okWide_slice Try.underlying23 (hval 2 23 v2 rfl rfl)
  obtain ⟨l2, z2, r2⟩ := open_slice_ints (ks := [.i64, .i64, .i64, .u32, .u32]) Try.underlying23 Try.underlying34 (by kernel_rfl) (by kernel_rfl) h2
  clear hA0 hval0
  refine (walk a0 s1 len1 cap1 z1 s2 len2 cap2 z2 W w0 l1 r1 w1 l2 r2).mono fun e W' ⟨he, bel⟩ => ?_
  subst he
  exact ⟨_, rfl, _, _, _, [], _, [], hW', trodAll_mk1 (shut_bool Try.underlying4 _), (trodAll_cons_mk (shut_int Try.underlying5 w0) (trodAll_cons_mk (Below.trod laidOut (by kernel_rfl) (of_decide_eq_true (by kernel_rfl)) k1 bel lt1) (trodAll_cons_mk (Below.trod laidOut (by kernel_rfl) (of_decide_eq_true (by kernel_rfl)) k2 bel lt2) trodAll_mk0))), rfl, bel.frame _, fun h => by cases h⟩

theorem over : Rows.portPlaysRow.holds Try.pinned (OpenSpec.ofChange Rows.portPlaysSpec) :=
  OpenClaim.holds_of_wide 3 Try.f3 rfl rfl rfl rfl rfl rfl rfl ⟨rfl, rfl, rfl, rfl, rfl⟩ rfl rfl rfl rfl rfl (by kernel_rfl) Try.func3 (by kernel_rfl)
    (of_decide_eq_true (by kernel_rfl)) (by unfold Func.isWrapper; first | (rw [if_pos (by decide +kernel)]; kernel_rfl) | (rw [if_neg (by decide +kernel)]; exact ⟨rfl, rfl⟩))
    (fun os started H enc _ => lifted os started H enc)

/-- the statement -/
theorem proved : Rows.PortPlaysSaid := over
#print axioms proved
end Go.Proofs.Ytpcmgbcehleigaa.portPlays
