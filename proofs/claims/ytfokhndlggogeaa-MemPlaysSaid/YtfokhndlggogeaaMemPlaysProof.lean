/- For every input the Go function MemPlays of weighlocklaw02 returns true, and its arguments read afterwards as before. Conditions: none. -/
import Derived.Test.YtfokhndlggogeaaRows
import Derived.WalkKit
import Derived.ProofKit
import Derived.OpenShut
import Derived.ChangeOld
import Derived.Below
import Derived.Carry
import Derived.Test.YtfokhndlggogeaaMemHomes
namespace Go.Proofs.Ytfokhndlggogeaa.memPlays
open Go.ChangeShapes Go.WideShapes Go.ChangeAt Go.RowKit
set_option linter.unusedVariables false

theorem own : ownKnob Try.prog.godebug = none := by kernel_rfl
theorem laidOut : laidOutB Try.prog = true := by kernel_rfl

/-! the walk -/
set_option maxRecDepth 100000 in
set_option maxHeartbeats 2000000 in
theorem walk (a0 : Int) (s1 : Option Addr) (len1 cap1 : Nat) (z1 : Nat → Nat → Int) (w : World) (w0 : (Lit.int .u8 a0).wf = true) (l1 : len1 ≤ cap1 ∧ cap1 ≤ maxLen ∧ (s1 = none → cap1 = 0)) (r1 : Structs w [.i64, .i64, .u32, .u32] s1 len1 z1) :
    Calls Try.prog 3 #[.int .u8 a0, .slice s1 len1 cap1] w fun e w' => e = .returned (.bool true) ∧ Below w.heap.size w w' := by
  obtain ⟨u0, u1⟩ := u8_bd w0
  have hml : len1 ≤ 9223372036854775807 := by have := l1.1; have := l1.2.1; unfold maxLen at this; omega
  obtain ⟨n, rfl⟩ := Int.eq_ofNat_of_zero_le u0
  by_cases hn : 40 < n
  · go_enter Try.func3, Try.ntmps3
    go_wp2_with (go_at_call 8; refine (awake_any _).mono ?_; rintro e w6 ⟨rfl, hW6⟩)
    go_ret
    exact ⟨rfl, hW6.law⟩
  by_cases hl : 100 < len1
  · go_enter Try.func3, Try.ntmps3
    go_wp2_with (go_at_call 8; refine (awake_any _).mono ?_; rintro e w6 ⟨rfl, hW6⟩)
    go_ret
    exact ⟨rfl, hW6.law⟩
  have hmk1 := Go.run_make_row' (P := Try.prog) 28 3 (.int .i64 0) 8 Try.underlying28 info_int rfl .u8 .u8 n (by omega) (by omega)
  have hmk2 := Go.run_make_row' (P := Try.prog) 30 31 (.int .u32 0) 4 Try.underlying30 info_u32 rfl .u8 .u8 n (by omega) (by omega)
  have hat := r1.at (by decide)
  have hrep := home_rep n
  go_enter Try.func3, Try.ntmps3
  go_wp2_with (first
    | (go_at_call 9; refine (new_since (w0 := w) ((Wrote.refl Nil w).alloc _) (row_made (L := n) (by simp)) (by omega) hrep).mono ?_; rintro e w1 ⟨b, bw, hv, rfl, hM1, hb, hbw, hown, hW1⟩)
    | (go_at_call 10; have c := len_any hM1; rw [List.length_replicate] at c; with_reducible refine c.mono ?_; rintro e w' ⟨rfl, rfl⟩))
  clear hmk1 hmk2
  go_loopw [48, 7] (fun i xv wr => ∃ (k : Nat) (so : Option Addr) (cap : Nat) (ws : List Int), k ≤ len1 ∧ i = .int .i64 k ∧ xv = .slice so n cap ∧ RowAt .u32 wr so n ws ∧ Hid (∀ q, so = some q → q.block ≠ bw) ∧ MemAt wr b bw hv (List.replicate n 0) ws ∧ Wrote Nil w wr) (fun i _ _ => len1 - (intOf i).toNat)
  case atStart => exact ⟨0, some ⟨w1.heap.size, 0, none⟩, n, List.replicate n 0, Nat.zero_le _, rfl, rfl, row_made rfl, fun q hq => by obtain rfl : (⟨w1.heap.size, 0, none⟩ : Addr) = q := Option.some.inj hq; have := hM1.lt; show w1.heap.size ≠ bw; omega, hM1.after ((Wrote.refl Nil w1).alloc _), hW1.alloc _⟩
  case round =>
    obtain ⟨k, so, cap, ws, hk, rfl, rfl, hrow, hsep, hM, hW⟩ := hrel
    by_cases hlt : k < len1
    · rcases hat with h0 | ⟨ob, oo, rfl, hcs⟩
      · omega
      · have q0 : wr.cell? ⟨ob, oo + k * 4, none⟩ = some (.int .i64 (z1 k 0)) := hW.old (hcs k hlt 0 .i64 rfl).1
        have q1 : wr.cell? ⟨ob, oo + k * 4 + 1, none⟩ = some (.int .i64 (z1 k 1)) := hW.old (hcs k hlt 1 .i64 rfl).1
        have q2 : wr.cell? ⟨ob, oo + k * 4 + 2, none⟩ = some (.int .u32 (z1 k 2)) := hW.old (hcs k hlt 2 .u32 rfl).1
        have q3 : wr.cell? ⟨ob, oo + k * 4 + 3, none⟩ = some (.int .u32 (z1 k 3)) := hW.old (hcs k hlt 3 .u32 rfl).1
        obtain ⟨v0, v1⟩ := u32_bd (hcs k hlt 3 .u32 rfl).2
        generalize z1 k 0 = K at q0
        generalize z1 k 1 = A at q1
        generalize z1 k 2 = old at q2
        generalize z1 k 3 = v at q3 v0 v1
        have HC := Lib.hid hcs
        have hlen := hrow.len
        have hrX : RowAt .u32 (wr.alloc (.cells #[.int .i64 K, .int .i64 A, .int .u32 old, .int .u32 v] 33)) so ws.length ws := by rw [hlen]; exact hrow.after ((Wrote.refl Nil wr).alloc _)
        have hMX := hM.after ((Wrote.refl Nil wr).alloc (.cells #[.int .i64 K, .int .i64 A, .int .u32 old, .int .u32 v] 33))
        have hWX := hW.alloc (.cells #[.int .i64 K, .int .i64 A, .int .u32 old, .int .u32 v] 33)
        have hbwX : bw < wr.heap.size := hM.lt.2.1
        have cdo := do_any (cap := cap) hrX (by omega) K A old v v0 v1
        rw [hlen] at cdo
        have HL := Lib.hid hlen
        clear hcs hlen
        go_wp2_with (first
          | (go_at_call 11; with_reducible refine cdo.mono ?_; intro e w2 h; unfold DoPost at h; rw [HL.out] at h; obtain ⟨so2, cap2, rfl, hr2, hw2, hs2⟩ := h; have hM2 := hMX.after hw2; have hW2 := hWX.nil hw2; have p0 := hw2.old (show (wr.alloc (.cells #[.int .i64 K, .int .i64 A, .int .u32 old, .int .u32 v] 33)).cell? ⟨wr.heap.size, 0, none⟩ = some (.int .i64 K) by simp); have p1 := hw2.old (show (wr.alloc (.cells #[.int .i64 K, .int .i64 A, .int .u32 old, .int .u32 v] 33)).cell? ⟨wr.heap.size, 1, none⟩ = some (.int .i64 A) by simp); have p2 := hw2.old (show (wr.alloc (.cells #[.int .i64 K, .int .i64 A, .int .u32 old, .int .u32 v] 33)).cell? ⟨wr.heap.size, 2, none⟩ = some (.int .u32 old) by simp); have p3 := hw2.old (show (wr.alloc (.cells #[.int .i64 K, .int .i64 A, .int .u32 old, .int .u32 v] 33)).cell? ⟨wr.heap.size, 3, none⟩ = some (.int .u32 v) by simp); have HS := Lib.hid hs2; clear hs2)
          | (go_at_call 12; have c := told_any hM2 K A old v v0 v1; with_reducible refine c.mono ?_; intro e w3 h; unfold ToldPost at h; obtain ⟨rfl, hM3, hW3⟩ := h))
        go_roundw
        case rel =>
          refine ⟨k + 1, so2, cap2, doL ws K A old v, by omega, by go_num, rfl, hr2.wrote hW3 ?_, ?_, hM3, hW2.one hW3 hbw⟩
          · intro q hq he
            rcases HS.out q hq with h | h
            · exact hsep.out q h he
            · have he' : q.block = bw := he
              rw [Go.Deep.nblk_alloc] at h
              omega
          · intro q hq he
            rcases HS.out q hq with h | h
            · exact hsep.out q h he
            · rw [Go.Deep.nblk_alloc] at h
              omega
        case measure => simp [intOf]; omega
    · have hlen := hrow.len
      have HL := Lib.hid hlen
      clear hlen hat
      go_wp2_with (go_at_call 13; have c := words_any hM; with_reducible refine c.mono ?_; intro e w2 h; unfold WordsPost at h; rw [HL.out] at h; obtain ⟨g, rfl, hrw, hg, hW2⟩ := h)
      go_loopw [92] (fun i wr => ∃ (k : Nat), k ≤ n ∧ i = .int .i64 k ∧ wr.rowIs g 31 n (fun j => .int .u32 (ws.getD j 0)) ∧ RowAt .u32 wr so n ws ∧ Wrote Nil w wr) (fun i _ => n - (intOf i).toNat)
      case atStart => exact ⟨0, Nat.zero_le _, rfl, hrw, hrow.after hW2, hW.nil hW2⟩
      case round =>
        obtain ⟨j, hj, rfl, hrow1, hrow2, hWx⟩ := hrel
        by_cases hjn : j < n
        · rcases hrow2.at with h0 | ⟨xb, xo, rfl, hxc⟩
          · omega
          · obtain ⟨x, hx⟩ : ∃ x, x = ws.getD j 0 := ⟨_, rfl⟩
            have f1 := hrow1.cell hjn
            have f2 := hxc j hjn
            rw [← hx] at f1 f2
            have f3 : (j : Int) < n := by omega
            have HX := Lib.hid (And.intro hx (And.intro hxc (And.intro hrow1 hrow2)))
            clear hx hxc hrow1 hrow2 hrow hrw
            go_wp2
            go_quiet (fail)
            go_wp2
            go_roundw
            case rel => exact ⟨j + 1, by omega, by go_num, HX.out.2.2.1, HX.out.2.2.2.after ((Wrote.refl Nil wr).drewN _), hWx.drewN _⟩
            case measure => simp [intOf]; omega
        · go_wp2_with (go_at_call 8; refine (awake_any _).mono ?_; rintro e w6 ⟨rfl, hW6⟩)
          go_ret
          exact ⟨rfl, (hWx.nil hW6).law⟩

/-! the row -/
set_option maxRecDepth 100000 in
theorem lifted (os : Os) (started : os.Started) (H : Type) (enc : TypeId × Value → H) :
    ReturnsInHanded {} Try.checked os 3 .any (Rows.memPlaysSpec.pre6 enc Try.prog Try.f3 Rows.memPlaysRow.domain false) (Rows.memPlaysSpec.post enc Try.prog Try.f3 false true false false) := by
  refine returnsInHanded_of_change (C := Try.checked) own started (by kernel_rfl) Try.func3
    (ChangeSpec.witness6 (enc := enc) (C := Try.checked) false ⟨#[], #[.int .u8 0, .slice none 0 0], []⟩ 8 (by kernel_rfl) (by kernel_rfl) (by kernel_rfl) (by kernel_rfl)) ?_
  intro W base args ds gs before hval0 hW hcnd _
  have hval : ∀ (j : Nat) t v, Try.f3.params[j]? = some t → args[j]? = some v → Value.okWide Try.prog W .any base t v := hval0
  have hW' := hW
  obtain ⟨p, q, hA0, hV, rfl, hfz, hnd⟩ := hW
  have hA : DataW.TrodAll enc Try.prog W 0 (fun _ => true) true Try.f3.params.toList args.toList ds p := hA0
  rw [Try.params3] at hA hval
  obtain ⟨v0, vs0, d0, ds0, p0, q0, hargs, rfl, rfl, h0, r0'⟩ := trodAll_cons hA
  obtain ⟨v1, vs1, d1, ds1, p1, q1, rfl, rfl, rfl, h1, r1'⟩ := trodAll_cons r0'
  obtain ⟨rfl, rfl, rfl⟩ := trodAll_nil r1'
  obtain rfl : args = #[v0, v1] := by cases args; simp_all
  obtain ⟨rfl, rfl⟩ := trodVars_none hV
  obtain ⟨a0, rfl, rfl, rfl, w0⟩ := open_int Try.underlying5 (hval 0 5 v0 rfl rfl) h0
  have k1 := h1
  have lt1 : ∀ x ∈ p1, x.block < W.heap.size := by obtain ⟨m, hm⟩ := k1; exact DataW.trod_lt m _ _ _ hm
  obtain ⟨s1, len1, cap1, rfl⟩ := okWide_slice Try.underlying22 (hval 1 22 v1 rfl rfl)
  obtain ⟨l1, z1, r1⟩ := open_slice_ints (ks := [.i64, .i64, .u32, .u32]) Try.underlying22 Try.underlying33 (by kernel_rfl) (by kernel_rfl) h1
  clear hA0 hval0
  refine (walk a0 s1 len1 cap1 z1 W w0 l1 r1).mono fun e W' ⟨he, bel⟩ => ?_
  subst he
  exact ⟨_, rfl, _, _, _, [], _, [], hW', trodAll_mk1 (shut_bool Try.underlying4 _), (trodAll_cons_mk (shut_int Try.underlying5 w0) (trodAll_cons_mk (Below.trod laidOut (by kernel_rfl) (of_decide_eq_true (by kernel_rfl)) k1 bel lt1) trodAll_mk0)), rfl, bel.frame _, fun h => by cases h⟩

theorem over : Rows.memPlaysRow.holds Try.pinned (OpenSpec.ofChange Rows.memPlaysSpec) :=
  OpenClaim.holds_of_wide 3 Try.f3 rfl rfl rfl rfl rfl rfl rfl ⟨rfl, rfl, rfl, rfl, rfl⟩ rfl rfl rfl rfl rfl (by kernel_rfl) Try.func3 (by kernel_rfl)
    (of_decide_eq_true (by kernel_rfl)) (by unfold Func.isWrapper; first | (rw [if_pos (by decide +kernel)]; kernel_rfl) | (rw [if_neg (by decide +kernel)]; exact ⟨rfl, rfl⟩))
    (fun os started H enc _ => lifted os started H enc)

/-- the statement -/
theorem proved : Rows.MemPlaysSaid := over
#print axioms proved
end Go.Proofs.Ytfokhndlggogeaa.memPlays
