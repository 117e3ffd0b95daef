/- For every input the Go function PortSums of weighlocklaw04 returns true, and its arguments read afterwards as before. Conditions: none. -/
import Derived.Test.YtpcmgbcehleigaaRows
import Derived.WalkKit
import Derived.ProofKit
import Derived.OpenShut
import Derived.ChangeOld
import Derived.Below
import Derived.Carry
import Derived.Test.YtpcmgbcehleigaaPortLaw
import Derived.Lib.Hide
namespace Go.Proofs.Ytpcmgbcehleigaa.portSums
open Go.ChangeShapes Go.WideShapes Go.ChangeAt Go.RowKit
set_option linter.unusedVariables false

theorem own : ownKnob Try.prog.godebug = none := by kernel_rfl
theorem laidOut : laidOutB Try.prog = true := by kernel_rfl

/-! the walk -/
/-- the port of one word, which holds x, behind at most k accesses -/
structure SSt (w0 : World) (q : Place) (w : World) (x : Int) (k : Nat) : Prop where
  port : ∃ s, PortAt w q [0] s ∧ s.ws = [x] ∧ s.ac.length = 8 ∧ s.D.length ≤ k
  wrote : Wrote Nil w0 w
  low : w0.heap.size ≤ q.k0
def SPost (w0 : World) (q : Place) (v : Value) (x : Int) (k : Nat) (e : Ending) (w' : World) : Prop := e = .returned v ∧ SSt w0 q w' x k

theorem doS_len (s : PSta) (t K a old v : Int) : (doS s t K a old v).ac.length = s.ac.length ∧ (doS s t K a old v).D.length ≤ s.D.length + 1 := by
  unfold doS
  split
  · simp [touchS, bump_len]
  · simp
theorem s_add {w0 w : World} {q : Place} {x : Int} {k : Nat} (h : SSt w0 q w x k) (hk : k ≤ 60) (d : Int) (d0 : 0 ≤ d) (d1 : d < 4294967296) (t : Int) (ht : 0 ≤ t ∧ t < 8) :
    Calls Try.prog 15 #[.pointer (some ⟨q.p, 0, none⟩), .int .i64 t, .int .i64 0, .int .u32 d] w (SPost w0 q (.int .u32 x) ((x + d) % 4294967296) (k + 1)) := by
  obtain ⟨s, hP, hx, h8, hD⟩ := h.port
  refine (padd_any hP t 0 d d0 d1 (by omega)).mono ?_
  rintro e w' ⟨he, hP', hW⟩
  have hok : okS s t 5 0 = true := by
    unfold okS okT
    rw [h8, hx]
    simp [ht.1]
    omega
  have e1 : tellS s t 5 0 = x := by unfold tellS; rw [hok, hx]; rfl
  have e2 : (doS s t 5 0 0 d).ws = [(x + d) % 4294967296] := by unfold doS; rw [hok, if_pos rfl]; simp only; rw [hx]; rfl
  have hl := doS_len s t 5 0 0 d
  refine ⟨by rw [he, e1], ⟨_, hP', e2, by rw [hl.1]; exact h8, by omega⟩, h.wrote.trans hW (fun b hb hr => absurd hr.1 (by have := h.low; omega)), h.low⟩
theorem s_load {w0 w : World} {q : Place} {x : Int} {k : Nat} (h : SSt w0 q w x k) (hk : k ≤ 60) :
    Calls Try.prog 11 #[.pointer (some ⟨q.p, 0, none⟩), .int .i64 0, .int .i64 0] w fun e w' => e = .returned (.int .u32 x) ∧ Wrote Nil w0 w' := by
  obtain ⟨s, hP, hx, h8, hD⟩ := h.port
  refine (pload_any hP 0 0 (by omega)).mono ?_
  rintro e w' ⟨he, hP', hW⟩
  have hok : okS s 0 1 0 = true := by
    unfold okS okT
    rw [h8, hx]
    rfl
  have e1 : tellS s 0 1 0 = x := by unfold tellS; rw [hok, hx]; rfl
  exact ⟨by rw [he, e1], h.wrote.trans hW (fun b hb hr => absurd hr.1 (by have := h.low; omega))⟩

set_option maxRecDepth 100000 in
set_option maxHeartbeats 1000000 in
theorem walk (s0 : Option Addr) (len0 cap0 : Nat) (z0 : List Int) (a1 : Int) (w : World) (l0 : len0 ≤ cap0 ∧ cap0 ≤ maxLen ∧ (s0 = none → cap0 = 0)) (r0 : RowAt .u32 w s0 len0 z0) (w0 : ∀ z ∈ z0, (Lit.int .u32 z).wf = true) (w1 : (Lit.int .u8 a1).wf = true) :
    Calls Try.prog 6 #[.slice s0 len0 cap0, .int .u8 a1] w fun e w' => e = .returned (.bool true) ∧ Below w.heap.size w w' := by
  obtain ⟨u0, u1⟩ := u8_bd w1
  have hml : len0 ≤ 9223372036854775807 := by have := l0.1; have := l0.2.1; unfold maxLen at this; omega
  have hat := r0.at
  have hwf := wf_getD w0
  have r1 : RowAt .i64 ((w.alloc (.cells #[.int .i64 0] 3)).alloc (.cells #[.int .u32 9] 32)) (some ⟨w.heap.size, 0, none⟩) 1 [0] := (row_one rfl).after ((Wrote.refl Nil _).alloc _)
  have r2 : RowAt .u32 ((w.alloc (.cells #[.int .i64 0] 3)).alloc (.cells #[.int .u32 9] 32)) (some ⟨w.heap.size + 1, 0, none⟩) 1 [9] := row_one (by rw [Go.Deep.nblk_alloc])
  have cN : Calls Try.prog 8 #[.int .i64 8, .slice (some ⟨w.heap.size, 0, none⟩) 1 1, .slice (some ⟨w.heap.size + 1, 0, none⟩) 1 1] ((w.alloc (.cells #[.int .i64 0] 3)).alloc (.cells #[.int .u32 9] 32)) (NewPortPost w [0] (newS 8 [9])) := pnew_good (w0 := w) (c1 := 1) (c2 := 1) (n := 8) (((Wrote.refl Nil w).alloc _).alloc _) r1 r2 (by intro j; rcases j with _ | j <;> simp) (by decide) (by decide) (by decide) (by decide)
  clear r1 r2 r0 w0 l0 w1
  by_cases hbig : 60 < len0
  · go_enter Try.func6, Try.ntmps6
    go_wp2_with (first
      | (go_at_call 8; with_reducible refine cN.mono ?_; intro e w1 h1; unfold NewPortPost at h1; obtain ⟨q, rfl, hP1, k0, k3, hW1⟩ := h1)
      | (go_at_call 7; refine (awake_any _).mono ?_; rintro e w6 ⟨rfl, hW6⟩))
    go_ret
    exact ⟨rfl, (hW1.nil hW6).law⟩
  · go_enter Try.func6, Try.ntmps6
    go_wp2_with (first
      | (go_at_call 8; with_reducible refine cN.mono ?_; intro e w1 h1; unfold NewPortPost at h1; obtain ⟨q, rfl, hP1, k0, k3, hW1⟩ := h1))
    have hS0 : SSt w q w1 9 0 := ⟨⟨_, hP1, rfl, by simp [newS], by simp [newS]⟩, hW1, k0⟩
    clear hP1 k0 k3 hW1
    go_loopw [38, 7] (fun i s wr => ∃ (k : Nat) (x : Int), k ≤ len0 ∧ i = .int .i64 k ∧ s = .int .u32 x ∧ SSt w q wr x k) (fun i _ _ => len0 - (intOf i).toNat)
    case atStart => exact ⟨0, 9, Nat.zero_le _, rfl, rfl, hS0⟩
    case round =>
      clear hS0
      obtain ⟨k, x, hk, rfl, rfl, hS⟩ := hrel
      by_cases hlt : k < len0
      · rcases hat with h0 | ⟨rb, ro, rfl, hcell⟩
        · omega
        · obtain ⟨d, hd⟩ : ∃ d, d = z0.getD k 0 := ⟨_, rfl⟩
          have hc := hS.wrote.old (hcell k hlt)
          rw [← hd] at hc
          have hdr : 0 ≤ d ∧ d < 4294967296 := by rw [hd]; exact hwf k
          obtain ⟨d0, d1⟩ := hdr
          have cA := s_add hS (by omega) d d0 d1 ((a1 + k) % 8) (by omega)
          have HH := Lib.hid (And.intro hcell (And.intro hd (And.intro hwf hS)))
          clear hcell hd hwf hS
          go_wp2_with (go_at_call 15; with_reducible refine cA.mono ?_; intro e w3 h3; unfold SPost at h3; obtain ⟨rfl, hS3⟩ := h3)
          go_roundw
          case rel => exact ⟨k + 1, (x + d) % 4294967296, by omega, by go_num, by go_num, hS3⟩
          case measure => simp [intOf]; omega
      · have cL := s_load hS (by omega)
        go_wp2_with (first
          | (go_at_call 11; with_reducible refine cL.mono ?_; rintro e w4 ⟨rfl, hW4⟩)
          | (go_at_call 7; refine (awake_any _).mono ?_; rintro e w6 ⟨rfl, hW6⟩))
        go_ret
        exact ⟨rfl, (hW4.nil hW6).law⟩

/-! the row -/
set_option maxRecDepth 100000 in
theorem lifted (os : Os) (started : os.Started) (H : Type) (enc : TypeId × Value → H) :
    ReturnsInHanded {} Try.checked os 6 .any (Rows.portSumsSpec.pre6 enc Try.prog Try.f6 Rows.portSumsRow.domain false) (Rows.portSumsSpec.post enc Try.prog Try.f6 false true false false) := by
  refine returnsInHanded_of_change (C := Try.checked) own started (by kernel_rfl) Try.func6
    (ChangeSpec.witness6 (enc := enc) (C := Try.checked) false ⟨#[], #[.slice none 0 0, .int .u8 0], []⟩ 8 (by kernel_rfl) (by kernel_rfl) (by kernel_rfl) (by kernel_rfl)) ?_
  intro W base args ds gs before hval0 hW hcnd _
  have hval : ∀ (j : Nat) t v, Try.f6.params[j]? = some t → args[j]? = some v → Value.okWide Try.prog W .any base t v := hval0
  have hW' := hW
  obtain ⟨p, q, hA0, hV, rfl, hfz, hnd⟩ := hW
  have hA : DataW.TrodAll enc Try.prog W 0 (fun _ => true) true Try.f6.params.toList args.toList ds p := hA0
  rw [Try.params6] at hA hval
  obtain ⟨v0, vs0, d0, ds0, p0, q0, hargs, rfl, rfl, h0, r0'⟩ := trodAll_cons hA
  obtain ⟨v1, vs1, d1, ds1, p1, q1, rfl, rfl, rfl, h1, r1'⟩ := trodAll_cons r0'
  obtain ⟨rfl, rfl, rfl⟩ := trodAll_nil r1'
  obtain rfl : args = #[v0, v1] := by cases args; simp_all
  obtain ⟨rfl, rfl⟩ := trodVars_none hV
  have k0 := h0
  have lt0 : ∀ x ∈ p0, x.block < W.heap.size := by obtain ⟨m, hm⟩ := k0; exact DataW.trod_lt m _ _ _ hm
  obtain ⟨s0, len0, cap0, rfl⟩ := okWide_slice Try.underlying22 (hval 0 22 v0 rfl rfl)
  obtain ⟨l0, z0, r0, w0⟩ := open_slice_row Try.underlying22 Try.underlying32 (by kernel_rfl) h0
  obtain ⟨a1, rfl, rfl, rfl, w1⟩ := open_int Try.underlying5 (hval 1 5 v1 rfl rfl) h1
  clear hA0 hval0
  refine (walk s0 len0 cap0 z0 a1 W l0 r0 w0 w1).mono fun e W' ⟨he, bel⟩ => ?_
  subst he
  exact ⟨_, rfl, _, _, _, [], _, [], hW', trodAll_mk1 (shut_bool Try.underlying4 _), (trodAll_cons_mk (Below.trod laidOut (by kernel_rfl) (of_decide_eq_true (by kernel_rfl)) k0 bel lt0) (trodAll_cons_mk (shut_int Try.underlying5 w1) trodAll_mk0)), rfl, bel.frame _, fun h => by cases h⟩

theorem over : Rows.portSumsRow.holds Try.pinned (OpenSpec.ofChange Rows.portSumsSpec) :=
  OpenClaim.holds_of_wide 6 Try.f6 rfl rfl rfl rfl rfl rfl rfl ⟨rfl, rfl, rfl, rfl, rfl⟩ rfl rfl rfl rfl rfl (by kernel_rfl) Try.func6 (by kernel_rfl)
    (of_decide_eq_true (by kernel_rfl)) (by unfold Func.isWrapper; first | (rw [if_pos (by decide +kernel)]; kernel_rfl) | (rw [if_neg (by decide +kernel)]; exact ⟨rfl, rfl⟩))
    (fun os started H enc _ => lifted os started H enc)

/-- the statement -/
theorem proved : Rows.PortSumsSaid := over
#print axioms proved
end Go.Proofs.Ytpcmgbcehleigaa.portSums
