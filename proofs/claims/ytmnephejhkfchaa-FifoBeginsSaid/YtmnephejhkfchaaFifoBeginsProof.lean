/- For every input the Go function FifoBegins of weighlocklaw19 returns true, and its arguments read afterwards as before. Conditions: none. -/
import Derived.Test.YtmnephejhkfchaaRows
import Derived.WalkKit
import Derived.ProofKit
import Derived.OpenShut
import Derived.ChangeOld
import Derived.Below
import Derived.Carry
import Derived.Test.YtmnephejhkfchaaFiAw
namespace Go.Proofs.Ytmnephejhkfchaa.fifoBegins
open Go.ChangeShapes Go.WideShapes Go.ChangeAt Go.RowKit Go.BigFrame Go.Proofs.Ytmnephejhkfchaa.Fi
set_option linter.unusedVariables false

theorem own : ownKnob Try.prog.godebug = none := by kernel_rfl
theorem laidOut : laidOutB Try.prog = true := by kernel_rfl

/-! the walk -/
theorem mod_nat {a : Int} {n : Nat} (h0 : 0 ≤ a) : ∃ k : Nat, k ≤ n ∧ a % ((n : Int) + 1) = k := by
  obtain ⟨m, rfl⟩ := Int.eq_ofNat_of_zero_le h0
  exact ⟨m % (n + 1), Nat.le_of_lt_succ (Nat.mod_lt _ (Nat.succ_pos n)), (Int.natCast_emod m (n + 1)).symm⟩
set_option maxRecDepth 100000 in
set_option maxHeartbeats 2000000 in
theorem walk (a0 : Int) (s1 : Option Addr) (len1 cap1 : Nat) (z1 : Nat → Nat → Int) (a2 : Int) (w : World) (w0 : (Lit.int .i64 a0).wf = true) (l1 : len1 ≤ cap1 ∧ cap1 ≤ maxLen ∧ (s1 = none → cap1 = 0)) (r1 : StructsK w [.int .i64, .int .i64, .int .i64, .bool] s1 len1 z1) (w2 : (Lit.int .u8 a2).wf = true) :
    Calls Try.prog 4 #[.int .i64 a0, .slice s1 len1 cap1, .int .u8 a2] w fun e w' => e = .returned (.bool true) ∧ Below w.heap.size w w' := by
  have ca := fi_awake
  by_cases hn : 100 < len1
  · have hn' : (100 : Int) < len1 := by omega
    have c1 := ca w
    go_enter Try.func4, Try.ntmps4
    go_wp2_with (go_at_call 5; (with_reducible refine c1.mono ?_); intro e w1 hq; unfold AwPost at hq; obtain ⟨rfl, hW1⟩ := hq)
    go_ret
    exact ⟨rfl, hW1.law⟩
  have hD := ents_in r1
  obtain ⟨D, hDe⟩ : ∃ D, D = (List.range len1).map (entZ z1) := ⟨_, rfl⟩
  rw [← hDe] at hD
  have hlen := hD.len
  have c1 := fi_check (cap := cap1) hD (by omega) a0
  unfold ChPost at c1
  have hle := FA.chk_le (n := held a0) D FA.new
  have hct : ∀ k, FA.new.chk (held a0) (D.take k) = min k (FA.new.chk (held a0) D) := fun k => FA.chk_take D k FA.new
  have c2 : ∀ (W : World) (k : Nat), k ≤ len1 → Wrote Nil w W → Calls Try.prog 6 #[.int .i64 a0, .slice s1 k cap1] W fun e w' => e = .returned (.tuple #[.int .i64 (min (k : Int) (FA.new.chk (held a0) D : Nat)), .bool (decide ((k : Int) ≤ (FA.new.chk (held a0) D : Nat)))]) ∧ Wrote Nil W w' := fun W k hk hW => by
    have c := fi_check (cap := cap1) (recs_take (hD.after hW) hk) (by omega) a0
    have e1 : ((min k (FA.new.chk (held a0) D) : Nat) : Int) = min (k : Int) (FA.new.chk (held a0) D : Nat) := by omega
    have e2 : decide (min k (FA.new.chk (held a0) D) = (D.take k).length) = decide ((k : Int) ≤ (FA.new.chk (held a0) D : Nat)) := by
      rw [List.length_take, hlen, Bool.eq_iff_iff, decide_eq_true_eq, decide_eq_true_eq]
      omega
    unfold ChPost at c
    rw [hct k, e1, e2] at c
    exact c
  rw [hlen] at hle c1
  obtain ⟨c, hc⟩ : ∃ c, c = FA.new.chk (held a0) D := ⟨_, rfl⟩
  rw [← hc] at c1 hle
  have H2 := Lib.hid (And.intro c2 (And.intro hc ca))
  have ha := u8_bd w2
  have hcap := l1.1
  have hn' : ¬ (100 : Int) < len1 := by omega
  have q1 : decide ((c : Int) < 0) = false := decide_eq_false (by omega)
  have q2 : decide ((len1 : Int) < c) = false := decide_eq_false (by omega)
  have q3 : (decide (c = len1)) = ((c : Int) == (len1 : Int)) := by rw [Bool.eq_iff_iff, decide_eq_true_eq, beq_iff_eq]; omega
  rw [q3] at c1
  obtain ⟨kk, hkk, htm⟩ := mod_nat (n := len1) ha.1
  have HT := Lib.hid htm
  have hl64 : (len1 : Int) ≤ 100 := by omega
  clear c2 hc ca hct hlen hDe hD r1 q3 htm hn
  go_enter Try.func4, Try.ntmps4
  go_upto_region 4 with (go_at_call 6; (with_reducible refine c1.mono ?_); rintro e w1 ⟨rfl, hW1⟩; have H1 := Lib.hid hW1; clear hW1 c1)
  go_upto_region 7 with fail
  rw [HT.out]
  have c2 := H2.out.1 w1 kk hkk H1.out
  rw [← H2.out.2.1] at c2
  have hkc : kk ≤ cap1 := by omega
  clear HT
  go_wp2_with (first
    | (go_at_call 6; (with_reducible refine c2.mono ?_); rintro e w2 ⟨rfl, hW2⟩; have H3 := Lib.hid (H1.out.nil hW2); clear hW2 c2)
    | (go_at_call 5; (with_reducible refine (H2.out.2.2 _).mono ?_); intro e w3 hq; unfold AwPost at hq; obtain ⟨rfl, hW3⟩ := hq; have H4 := Lib.hid (H3.out.nil hW3); clear hW3))
  go_ret
  exact ⟨rfl, H4.out.law⟩

/-! the row -/
set_option maxRecDepth 100000 in
theorem lifted (os : Os) (started : os.Started) (H : Type) (enc : TypeId × Value → H) :
    ReturnsInHanded {} Try.checked os 4 .any (Rows.fifoBeginsSpec.pre6 enc Try.prog Try.f4 Rows.fifoBeginsRow.domain false) (Rows.fifoBeginsSpec.post enc Try.prog Try.f4 false true false false) := by
  refine returnsInHanded_of_change (C := Try.checked) own started (by kernel_rfl) Try.func4
    (ChangeSpec.witness6 (enc := enc) (C := Try.checked) false ⟨#[], #[.int .i64 0, .slice none 0 0, .int .u8 0], []⟩ 8 (by kernel_rfl) (by kernel_rfl) (by kernel_rfl) (by kernel_rfl)) ?_
  intro W base args ds gs before hval0 hW hcnd _
  have hval : ∀ (j : Nat) t v, Try.f4.params[j]? = some t → args[j]? = some v → Value.okWide Try.prog W .any base t v := hval0
  have hW' := hW
  obtain ⟨p, q, hA0, hV, rfl, hfz, hnd⟩ := hW
  have hA : DataW.TrodAll enc Try.prog W 0 (fun _ => true) true Try.f4.params.toList args.toList ds p := hA0
  rw [Try.params4] at hA hval
  obtain ⟨v0, vs0, d0, ds0, p0, q0, hargs, rfl, rfl, h0, r0'⟩ := trodAll_cons hA
  obtain ⟨v1, vs1, d1, ds1, p1, q1, rfl, rfl, rfl, h1, r1'⟩ := trodAll_cons r0'
  obtain ⟨v2, vs2, d2, ds2, p2, q2, rfl, rfl, rfl, h2, r2'⟩ := trodAll_cons r1'
  obtain ⟨rfl, rfl, rfl⟩ := trodAll_nil r2'
  obtain rfl : args = #[v0, v1, v2] := by cases args; simp_all
  obtain ⟨rfl, rfl⟩ := trodVars_none hV
  obtain ⟨a0, rfl, rfl, rfl, w0⟩ := open_int Try.underlying3 (hval 0 3 v0 rfl rfl) h0
  have k1 := h1
  have lt1 : ∀ x ∈ p1, x.block < W.heap.size := by obtain ⟨m, hm⟩ := k1; exact DataW.trod_lt m _ _ _ hm
  obtain ⟨s1, len1, cap1, rfl⟩ := okWide_slice Try.underlying22 (hval 1 22 v1 rfl rfl)
  obtain ⟨l1, z1, r1⟩ := open_slice_fk (ks := [.int .i64, .int .i64, .int .i64, .bool]) Try.underlying22 Try.underlying36 (by kernel_rfl) (by kernel_rfl) h1
  obtain ⟨a2, rfl, rfl, rfl, w2⟩ := open_int Try.underlying5 (hval 2 5 v2 rfl rfl) h2
  clear hA0 hval0
  refine (walk a0 s1 len1 cap1 z1 a2 W w0 l1 r1 w2).mono fun e W' ⟨he, bel⟩ => ?_
  subst he
  exact ⟨_, rfl, _, _, _, [], _, [], hW', trodAll_mk1 (shut_bool Try.underlying4 _), (trodAll_cons_mk (shut_int Try.underlying3 w0) (trodAll_cons_mk (Below.trod laidOut (by kernel_rfl) (of_decide_eq_true (by kernel_rfl)) k1 bel lt1) (trodAll_cons_mk (shut_int Try.underlying5 w2) trodAll_mk0))), rfl, bel.frame _, fun h => by cases h⟩

theorem over : Rows.fifoBeginsRow.holds Try.pinned (OpenSpec.ofChange Rows.fifoBeginsSpec) :=
  OpenClaim.holds_of_wide 4 Try.f4 rfl rfl rfl rfl rfl rfl rfl ⟨rfl, rfl, rfl, rfl, rfl⟩ rfl rfl rfl rfl rfl (by kernel_rfl) Try.func4 (by kernel_rfl)
    (of_decide_eq_true (by kernel_rfl)) (by unfold Func.isWrapper; first | (rw [if_pos (by decide +kernel)]; kernel_rfl) | (rw [if_neg (by decide +kernel)]; exact ⟨rfl, rfl⟩))
    (fun os started H enc _ => lifted os started H enc)

/-- the statement -/
theorem proved : Rows.FifoBeginsSaid := over
#print axioms proved
end Go.Proofs.Ytmnephejhkfchaa.fifoBegins
