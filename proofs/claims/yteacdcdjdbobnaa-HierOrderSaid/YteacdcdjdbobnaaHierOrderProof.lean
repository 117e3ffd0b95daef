/- For every input the Go function HierOrder of weighlocklaw15 returns true, and its arguments read afterwards as before. Conditions: none. -/
import Derived.Test.YteacdcdjdbobnaaRows
import Derived.WalkKit
import Derived.ProofKit
import Derived.OpenShut
import Derived.ChangeOld
import Derived.Below
import Derived.Carry
import Derived.BigFrame
import Derived.BigQuiet
import Derived.Test.YteacdcdjdbobnaaHierRows
namespace Go.Proofs.Yteacdcdjdbobnaa.hierOrder
open Go.ChangeShapes Go.WideShapes Go.ChangeAt Go.RowKit
set_option linter.unusedVariables false

theorem own : ownKnob Try.prog.godebug = none := by kernel_rfl
theorem laidOut : laidOutB Try.prog = true := by kernel_rfl

/-! the walk -/
/-- between two calls -/
def OdSt (w0 wr : World) (L : Lp) (Qb : Nat) (zs : List Int) (k : Nat) : Prop := ∃ (f : FL) (vq : Nat → Value) (q : Nat → List Nat), RdA w0 wr L f Qb vq q ∧ OrdS f zs q ∧ f.ps.D.length ≤ k

set_option maxRecDepth 100000 in
set_option maxHeartbeats 8000000 in
theorem walk (s0 : Option Addr) (len0 cap0 : Nat) (z0 : List Int) (s1 : Option Addr) (len1 cap1 : Nat) (z1 : Nat → Nat → Int) (w : World) (l0 : len0 ≤ cap0 ∧ cap0 ≤ maxLen ∧ (s0 = none → cap0 = 0)) (r0 : RowAt .i64 w s0 len0 z0) (w0 : ∀ z ∈ z0, (Lit.int .i64 z).wf = true) (l1 : len1 ≤ cap1 ∧ cap1 ≤ maxLen ∧ (s1 = none → cap1 = 0)) (r1 : Structs w [.i64, .i64, .i64, .i64] s1 len1 z1) :
    Calls Try.prog 3 #[.slice s0 len0 cap0, .slice s1 len1 cap1] w fun e w' => e = .returned (.bool true) ∧ Below w.heap.size w w' := by
  have hm0 : len0 ≤ 9223372036854775807 := by have := l0.1; have := l0.2.1; unfold maxLen at this; omega
  have hm1 : len1 ≤ 9223372036854775807 := by have := l1.1; have := l1.2.1; unfold maxLen at this; omega
  have hat : OpsAt w s1 len1 z1 := by
    rcases r1.at (by decide) with e | ⟨b2, o2, rfl, hc2⟩
    · exact .inl e
    · exact .inr ⟨b2, o2, rfl, fun i hi j hj => (hc2 i hi j .i64 (by match j, hj with | 0, _ => rfl | 1, _ => rfl | 2, _ => rfl | 3, _ => rfl)).1⟩
  have cF := fine_any (cap := cap0) r0 hm0 s1 len1 cap1 (by omega)
  cases hf : fineB len0 z0 len1
  · rw [hf] at cF
    clear r0 hf w0 l0 l1 r1 hat
    go_enter Try.func3, Try.ntmps3
    go_wp2_with (first
      | (go_at_call 7; with_reducible refine cF.mono ?_; rintro e w2 ⟨rfl, rfl⟩)
      | (go_at_call 8; with_reducible refine (fl_awake _).mono ?_; intro e w2 hq; unfold AwakePost at hq; obtain ⟨rfl, hW⟩ := hq))
    go_ret
    exact ⟨rfl, hW.law⟩
  · rw [hf] at cF
    obtain ⟨n1, n8, ho, hm⟩ := fineB_no hf
    rcases r0.at with e0 | ⟨b, o, rfl, hc⟩
    · omega
    have hb : b < w.heap.size := World.block_lt_of_cell? w _ (hc 0 (by omega))
    have HM := Lib.hid (fun (W : World) (k : Wrote Nil w W) => fl_made (cap := cap0) (r0.after k) (Nat.lt_of_lt_of_le hb k.size) ho n1 (by omega))
    have HH := Lib.hid (And.intro ho hat)
    have HS := Lib.hid r0.len
    have HZ0 := Lib.hid r0
    clear r0 hf w0 l0 l1 r1 hat hc ho hb
    go_enter Try.func3, Try.ntmps3
    go_upto_region 7 with (first
      | (go_at_call 7; with_reducible refine cF.mono ?_; rintro e w2 ⟨rfl, rfl⟩)
      | (go_at_call 9; (with_reducible refine (HM.out _ (Wrote.refl Nil w)).mono ?_); intro e w1 hq; unfold MdPost at hq; obtain ⟨L, rfl, hL, h1, h2, _⟩ := hq; have HA := Lib.hid (And.intro h1 h2); have H2 := Lib.hid hL; clear hL h1 h2))
    clear cF
    obtain ⟨Qb, hQb⟩ : ∃ Qb, Qb = w1.heap.size := ⟨_, rfl⟩
    obtain ⟨W1, hW1⟩ : ∃ W1, W1 = w1.alloc (.cells #[.slice none 0 0, .slice none 0 0, .slice none 0 0, .slice none 0 0, .slice none 0 0, .slice none 0 0, .slice none 0 0, .slice none 0 0] 30) := ⟨_, rfl⟩
    have HST := Lib.hid (show RdA w W1 L (newF z0 len0 len0) Qb (fun _ => .slice none 0 0) (fun _ => []) by rw [hW1, hQb]; exact RdA.start H2.out)
    rw [← hW1, ← hQb]
    clear hW1 hQb H2
    go_wp2
    go_loopw [34] (fun i wr => ∃ k : Nat, k ≤ len1 ∧ i = .int .i64 k ∧ OdSt w wr L Qb z0 k) (fun i _ => len1 - (intOf i).toNat)
    case atStart => exact ⟨0, Nat.zero_le _, rfl, _, _, _, HST.out, OrdS.start z0 HS.out n8 HH.out.1, Nat.le_refl _⟩
    case round =>
      clear HST HM
      obtain ⟨k, hk, rfl, hst⟩ := hrel
      unfold OdSt at hst
      obtain ⟨f, vq, q, hQ, hO, hD⟩ := hst
      by_cases hlt : k < len1
      · rcases HH.out.2 with e0 | ⟨gb, go, rfl, hcell⟩
        · omega
        have hkI : (k : Int) < len1 := by omega
        have y0 : wr.cell? ⟨gb, go + k * 4, none⟩ = some (.int .i64 (z1 k 0)) := hQ.ls.wr.old (hcell k hlt 0 (by decide))
        have y1 : wr.cell? ⟨gb, go + k * 4 + 1, none⟩ = some (.int .i64 (z1 k 1)) := hQ.ls.wr.old (hcell k hlt 1 (by decide))
        have y2 : wr.cell? ⟨gb, go + k * 4 + 2, none⟩ = some (.int .i64 (z1 k 2)) := hQ.ls.wr.old (hcell k hlt 2 (by decide))
        have y3 : wr.cell? ⟨gb, go + k * 4 + 3, none⟩ = some (.int .i64 (z1 k 3)) := hQ.ls.wr.old (hcell k hlt 3 (by decide))
        generalize z1 k 0 = K at y0
        generalize z1 k 1 = t at y1
        generalize z1 k 2 = N at y2
        generalize z1 k 3 = la at y3
        clear hcell
        obtain ⟨X, hX⟩ : ∃ X, X = wr.alloc (.cells #[.int .i64 K, .int .i64 t, .int .i64 N, .int .i64 la] 32) := ⟨_, rfl⟩
        have hQX : RdA w X L f Qb vq q := by rw [hX]; exact hQ.after ((Wrote.refl _ _).alloc _)
        have hB : X.heap[wr.heap.size]? = some (.cells #[.int .i64 K, .int .i64 t, .int .i64 N, .int .i64 la] 32 (0, 0)) := by rw [hX]; exact Go.Deep.blk_alloc_new wr _
        obtain ⟨B, hBe⟩ : ∃ B, B = wr.heap.size := ⟨_, rfl⟩
        have hBX : L.q.k3 ≤ B ∧ Qb < B ∧ ∀ c, c < 8 → ∀ j, (vq c).ownBlock = some j → j < B := by rw [hBe]; exact ⟨hQ.ls.lk.top, blk_lt hQ.arr, fun c hc j hj => (hQ.row c hc).lt j hj⟩
        rw [← hBe] at hB
        have HX0 := Lib.hid (And.intro hX hBe)
        have HX := Lib.hid (And.intro hQX (And.intro hB (And.intro hO (And.intro hD hBX))))
        clear hQ hX hQX hB hO hD hBe hBX
        go_upto_region 10 with fail
        obtain ⟨hX, hBe⟩ := HX0.out
        rw [← hX, ← hBe]
        clear HX0 hX hBe y0 y1 y2 y3
        have x0 : X.cell? ⟨B, 0, none⟩ = some (.int .i64 K) := by rw [blk_cell HX.out.2.1]; rfl
        have x1 : X.cell? ⟨B, 1, none⟩ = some (.int .i64 t) := by rw [blk_cell HX.out.2.1]; rfl
        have x2 : X.cell? ⟨B, 2, none⟩ = some (.int .i64 N) := by rw [blk_cell HX.out.2.1]; rfl
        have c0 := HX.out.1.ls.cell0
        by_cases hK1 : K = 1
        · subst hK1
          go_wp2
          have C0 : X.drew.cell? ⟨L.lb, 0, none⟩ = some (.pointer (some ⟨L.p, 0, none⟩)) := c0
          have X1 : X.drew.cell? ⟨B, 1, none⟩ = some (.int .i64 t) := x1
          have X2 : X.drew.cell? ⟨B, 2, none⟩ = some (.int .i64 N) := x2
          have hQd := HX.out.1.after ((Wrote.refl Nil X).drew)
          have cL := ls_lock hQd.ls t N
          have HQd := Lib.hid hQd
          clear hQd
          go_region_held3 (fun w' => w'.cell? ⟨L.lb, 0, none⟩ = some (.pointer (some ⟨L.p, 0, none⟩)) ∧ w'.cell? ⟨B, 1, none⟩ = some (.int .i64 t) ∧ w'.cell? ⟨B, 2, none⟩ = some (.int .i64 N)) (first | with_reducible exact ⟨d0, d1, d2⟩ | exact ⟨C0, X1, X2⟩) ((go_at_call 10; (with_reducible refine cL.mono ?_); intro e w2 hq; unfold LsPost at hq; obtain ⟨rfl, hL2, hW2⟩ := hq; have b2 := (hW2.block B (blk_lt (show X.drew.heap[B]? = _ from HX.out.2.1)) (fun e => by have := HX.out.2.2.2.2.1; unfold Low at e; omega)).trans (show X.drew.heap[B]? = _ from HX.out.2.1); have d0 := hL2.cell0; have e0 : w2.cell? ⟨B, 0, none⟩ = some (.int .i64 1) := (by rw [blk_cell b2]; rfl); have d1 : w2.cell? ⟨B, 1, none⟩ = some (.int .i64 t) := (by rw [blk_cell b2]; rfl); have d2 : w2.cell? ⟨B, 2, none⟩ = some (.int .i64 N) := (by rw [blk_cell b2]; rfl); have H2 := Lib.hid (HQd.out.call hL2 hW2); clear hL2 hW2 b2))
          clear x0 x1 x2 c0 C0 X1 X2 cL
          go_wp2
          go_roundw
          case rel => exact ⟨k + 1, by omega, by go_num, _, vq, q, H2.out, HX.out.2.2.1.lock t N, Nat.le_succ_of_le HX.out.2.2.2.1⟩
          case measure => simp [intOf]; omega
        by_cases hK2 : K = 2
        · subst hK2
          go_wp2
          have C0 : X.drew.cell? ⟨L.lb, 0, none⟩ = some (.pointer (some ⟨L.p, 0, none⟩)) := c0
          have X1 : X.drew.cell? ⟨B, 1, none⟩ = some (.int .i64 t) := x1
          have hQd := HX.out.1.after ((Wrote.refl Nil X).drew)
          have cL := ls_unlock hQd.ls t
          have HQd := Lib.hid hQd
          clear hQd
          go_region_held3 (fun w' => w'.cell? ⟨L.lb, 0, none⟩ = some (.pointer (some ⟨L.p, 0, none⟩)) ∧ w'.cell? ⟨B, 1, none⟩ = some (.int .i64 t)) (first | with_reducible exact ⟨d0, d1⟩ | exact ⟨C0, X1⟩) ((go_at_call 11; (with_reducible refine cL.mono ?_); intro e w2 hq; unfold LsPost at hq; obtain ⟨rfl, hL2, hW2⟩ := hq; have b2 := (hW2.block B (blk_lt (show X.drew.heap[B]? = _ from HX.out.2.1)) (fun e => by have := HX.out.2.2.2.2.1; unfold Low at e; omega)).trans (show X.drew.heap[B]? = _ from HX.out.2.1); have d0 := hL2.cell0; have e0 : w2.cell? ⟨B, 0, none⟩ = some (.int .i64 2) := (by rw [blk_cell b2]; rfl); have d1 : w2.cell? ⟨B, 1, none⟩ = some (.int .i64 t) := (by rw [blk_cell b2]; rfl); have H2 := Lib.hid (HQd.out.call hL2 hW2); clear hL2 hW2 b2))
          clear x0 x1 x2 c0 C0 X1 cL
          go_wp2
          go_roundw
          case rel => exact ⟨k + 1, by omega, by go_num, _, vq, q, H2.out, HX.out.2.2.1.unlock t, Nat.le_succ_of_le HX.out.2.2.2.1⟩
          case measure => simp [intOf]; omega
        have k1 : (K == 1) = false := beq_false_of_ne hK1
        have k2 : (K == 2) = false := beq_false_of_ne hK2
        by_cases hK4 : K = 4
        · subst hK4
          clear k1 k2 hK1 hK2 x2
          by_cases ht0 : t < 0
          · go_wp2
            go_roundw
            case rel => exact ⟨k + 1, by omega, by go_num, f, vq, q, HX.out.1, HX.out.2.2.1, Nat.le_succ_of_le HX.out.2.2.2.1⟩
            case measure => simp [intOf]; omega
          by_cases ht1 : (len0 : Int) ≤ t
          · go_wp2
            go_roundw
            case rel => exact ⟨k + 1, by omega, by go_num, f, vq, q, HX.out.1, HX.out.2.2.1, Nat.le_succ_of_le HX.out.2.2.2.1⟩
            case measure => simp [intOf]; omega
          obtain ⟨kk, rfl⟩ := Int.eq_ofNat_of_zero_le (show 0 ≤ t by omega)
          have hkk : kk < len0 := by omega
          have kI : (kk : Int) < len0 := by omega
          have k0I : ¬ ((kk : Int) < 0) := by omega
          have hz := getD_ok HH.out.1 kk
          have hz : 0 ≤ z0.getD kk 0 ∧ z0.getD kk 0 ≤ 7 := by unfold okH at hz; have := of_decide_eq_true hz; omega
          obtain ⟨c, hcl⟩ := Int.eq_ofNat_of_zero_le hz.1
          have hc8 : c < 8 := by omega
          have yz : X.cell? ⟨b, o + kk, none⟩ = some (.int .i64 (c : Int)) := by
            have := HZ0.out.cell ⟨b, o, none⟩ rfl kk hkk
            rw [Go.Addr.add_lit, hcl] at this
            exact HX.out.1.ls.wr.old this
          obtain ⟨q', hO', hD', hq⟩ := HX.out.2.2.1.step HA.out.1 HA.out.2 (show kk < z0.length by rw [HS.out]; exact hkk) hcl
          obtain ⟨d, hd⟩ : ∃ d, d = f.did L kk kk := ⟨_, rfl⟩
          rw [← hd] at hq
          have HO := Lib.hid (And.intro hO' (show (f.step L kk kk).ps.D.length ≤ k + 1 by have := HX.out.2.2.2.1; omega))
          clear hO' hD' hz hcl ht0 ht1
          have hcs : (d.enq = false ∧ d.ev ≠ 1 ∧ q' = q) ∨ (d = ⟨0, true, false, false⟩ ∧ q' c = q c ++ [kk] ∧ ∀ j, j ≠ c → q' j = q j) ∨ (∃ bb, d = ⟨1, false, false, bb⟩ ∧ q c = kk :: q' c ∧ ∀ j, j ≠ c → q' j = q j) := by
            cases hq with
            | same a b e => exact .inl ⟨a, b, funext e⟩
            | enq a b e => exact .inr (.inl ⟨a, b, e⟩)
            | grant a b e => obtain ⟨bb, a⟩ := a; exact .inr (.inr ⟨bb, a, b, e⟩)
          clear hq
          rcases hcs with ⟨ha, hl, eq0⟩ | ⟨rfl, eq0, eq1⟩ | ⟨bb, rfl, eq0, eq1⟩
          case' inl =>
            obtain ⟨ev, enq, arr, lead⟩ := d
            obtain rfl : enq = false := ha
            have c1 : (ev == 1) = false := beq_false_of_ne hl
            have HD := Lib.hid hd.symm
            clear hd hl
            go_upto_region 24 with (go_at_call 12; (with_reducible refine (ls_step HX.out.1.ls (kk : Int) (kk : Int) 0 (by have := HX.out.2.2.2.1; omega)).mono ?_); intro e w2 hq; unfold LsPost at hq; obtain ⟨rfl, hL2, hW2⟩ := hq; rw [HD.out]; dsimp only [Dd.val]; have b2 := (hW2.block B (blk_lt HX.out.2.1) (fun e => by have := HX.out.2.2.2.2.1; unfold Low at e; omega)).trans HX.out.2.1; have H2 := Lib.hid (And.intro (HX.out.1.call hL2 hW2) b2); clear hL2 hW2 b2)
            obtain ⟨V, hV⟩ : ∃ V, V = w2.alloc (.cells #[.int .i64 ev, .bool false, .bool arr, .bool lead] 41) := ⟨_, rfl⟩
            have HT := Lib.hid (show ∃ vq', RdA w V L (f.step L kk kk) Qb vq' q' from ⟨vq, by
              have := H2.out.1.after ((Wrote.refl _ w2).alloc (.cells #[.int .i64 ev, .bool false, .bool arr, .bool lead] 41))
              rw [← hV] at this
              rw [eq0]
              exact this⟩)
            rw [← hV]
            clear hV H2
          case' inr.inl =>
            have HD := Lib.hid hd.symm
            clear hd
            go_upto_region 19 with (go_at_call 12; (with_reducible refine (ls_step HX.out.1.ls (kk : Int) (kk : Int) 0 (by have := HX.out.2.2.2.1; omega)).mono ?_); intro e w2 hq; unfold LsPost at hq; obtain ⟨rfl, hL2, hW2⟩ := hq; rw [HD.out]; dsimp only [Dd.val]; have b2 := (hW2.block B (blk_lt HX.out.2.1) (fun e => by have := HX.out.2.2.2.2.1; unfold Low at e; omega)).trans HX.out.2.1; have H2 := Lib.hid (And.intro (HX.out.1.call hL2 hW2) b2); clear hL2 hW2 b2)
            obtain ⟨Y, hY⟩ : ∃ Y, Y = w2.alloc (.cells #[.int .i64 0, .bool true, .bool false, .bool false] 41) := ⟨_, rfl⟩
            obtain ⟨C, hC⟩ : ∃ C, C = w2.heap.size := ⟨_, rfl⟩
            have yc : Y.heap[C]? = some (.cells #[.int .i64 0, .bool true, .bool false, .bool false] 41 (0, 0)) := by rw [hY, hC]; exact Go.Deep.blk_alloc_new w2 _
            have hBC : B < C := by rw [hC]; exact blk_lt H2.out.2
            have yB : Y.heap[B]? = some (.cells #[.int .i64 4, .int .i64 (kk : Int), .int .i64 N, .int .i64 la] 32 (0, 0)) := by rw [hY, Go.Deep.blk_alloc_lt _ _ _ (by rw [← hC]; exact hBC)]; exact H2.out.2
            have hAY : RdA w Y L (f.step L kk kk) Qb vq q := by rw [hY]; exact H2.out.1.after ((Wrote.refl _ _).alloc _)
            rw [← hY, ← hC]
            clear hY hC H2
            obtain ⟨Yd, hYd⟩ : ∃ Yd, Yd = Y.drew := ⟨_, rfl⟩
            have hAd : RdA w Yd L (f.step L kk kk) Qb vq q := by rw [hYd]; exact hAY.after ((Wrote.refl _ _).drew)
            have dB : Yd.heap[B]? = some (.cells #[.int .i64 4, .int .i64 (kk : Int), .int .i64 N, .int .i64 la] 32 (0, 0)) := by rw [hYd]; exact yB
            have dC : Yd.heap[C]? = some (.cells #[.int .i64 0, .bool true, .bool false, .bool false] 41 (0, 0)) := by rw [hYd]; exact yc
            clear hAY yB yc
            have y1 : Yd.cell? ⟨B, 1, none⟩ = some (.int .i64 (kk : Int)) := by rw [blk_cell dB]; rfl
            have q1 := hAd.cell hc8
            have cI : (c : Int) < 8 := by omega
            have c0I : (0 : Int) ≤ c := by omega
            obtain ⟨Y2, hY2⟩ : ∃ Y2, Y2 = Yd.alloc (.cells #[.int .i64 (kk : Int)] 3) := ⟨_, rfl⟩
            have k2 : Wrote Nil Yd Y2 := by rw [hY2]; exact (Wrote.refl _ _).alloc _
            have z1 : Y2.cell? ⟨B, 1, none⟩ = some (.int .i64 (kk : Int)) := k2.old y1
            have zq := k2.old q1
            have hA2 := hAd.after k2
            have zB := (k2.block B (blk_lt dB) id).trans dB
            have zC := (k2.block C (blk_lt dC) id).trans dC
            have zn : Y2.cell? ⟨Yd.heap.size, 0, none⟩ = some (natV kk) := by rw [hY2, blk_cell (Go.Deep.blk_alloc_new _ _)]; rfl
            have hlq : (List.map natV (q c)).length ≤ 1000000 := by rw [List.length_map]; have := HX.out.2.2.1.len c; omega
            have HP := Lib.hid (fun (v' : Value) (w5 : World) (hp : PushQ Y2 w5 (vq c) v' ((q c).map natV) (natV kk)) => And.intro (hp.2.1.cell z1 (fun e => by have := (HX.out.2.2.2.2.2.2 c hc8 B e); omega)) (And.intro (hp.2.1.cell zq (fun e => (hA2.low c hc8 Qb e).2 rfl)) (And.intro ((hp.2.1.block Qb (blk_lt hA2.arr) (fun e => (hA2.low c hc8 Qb e).2 rfl)).trans hA2.arr) (And.intro ((hp.2.1.block C (blk_lt zC) (fun e => by have := HX.out.2.2.2.2.2.2 c hc8 C e; omega)).trans zC) (hA2.push hc8 hp eq0 eq1)))))
            have HR := Lib.hid (And.intro (hA2.row c hc8) (And.intro zn hlq))
            have HQB := Lib.hid (show Qb < B ∧ Qb < C from ⟨HX.out.2.2.2.2.2.1, by have := HX.out.2.2.2.2.2.1; omega⟩)
            have Z1 := Lib.hid z1
            have ZQ := Lib.hid zq
            clear hAd dB dC k2 hA2 zB zC zn hlq z1 zq
            refine wp_region_held_drew (S := fun w' => w'.cell? ⟨B, 1, none⟩ = some (.int .i64 (kk : Int))) (by kernel_rfl) (by first | exact y1 | (rw [← hYd]; exact y1)) (fun hHeld => ?_)
            try rw [← hYd]
            try rw [← hYd] at hHeld
            clear hYd
            refine wpAnyH_take (i := 0) (v := ?v1) rfl (by kernel_rfl) (by kernel_rfl) (by kernel_rfl) (fun _ _ _ h => h) (Or.inl ⟨by rfl, ?hy1⟩) (by assumption) ?rest1
            case hy1 => intro w hSw; (try dsimp only at hSw); go_simp; try with_reducible rfl
            (try simp only [Act.put, List.setIfInBounds_toArray])
            refine wpAnyH_take (i := 1) (v := ?v2) rfl (by kernel_rfl) (by kernel_rfl) (by kernel_rfl) (fun _ _ _ h => h) (Or.inl ⟨by rfl, ?hy2⟩) (by assumption) ?rest2
            case hy2 => intro w hSw; (try dsimp only at hSw); go_simp; try with_reducible rfl
            (try simp only [Act.put])
            refine wpAnyH_take (i := 2) (v := ?v3) rfl (by kernel_rfl) (by kernel_rfl) (by kernel_rfl) (fun _ _ _ h => h) (Or.inl ⟨by rfl, ?hy3⟩) (by assumption) ?rest3
            case hy3 => intro w hSw; (try dsimp only at hSw); go_simp; try with_reducible rfl
            (try simp only [Act.put])
            refine wpAnyH_take (i := 4) (v := ?v4) rfl (by kernel_rfl) (by kernel_rfl) (by kernel_rfl) (fun _ _ _ h => h) (Or.inl ⟨by rfl, ?hy4⟩) (by assumption) ?rest4
            case hy4 => intro w hSw; (try dsimp only at hSw); go_simp; try with_reducible rfl
            (try simp only [Act.put])
            refine wpAnyH_take (i := 5) (v := ?v5) rfl (by kernel_rfl) (by kernel_rfl) (by kernel_rfl) (fun _ _ _ h => h) (Or.inl ⟨by rfl, ?hy5⟩) (by assumption) ?rest5
            case hy5 => intro w hSw; (try dsimp only at hSw); go_simp; try with_reducible rfl
            (try simp only [Act.put])
            refine wpAnyH_ready (rs := [3, 6]) (by kernel_rfl) (by simp) ?_
            refine AllReadyH.cons rfl (fun K hK => ?_) (AllReadyH.cons rfl (fun K hK => ?_) (AllReadyH.nil))
            case' refine_1 =>
              go_simp
              refine hK.out _ _ y1 (fun hHeld2 => ?_)
              clear hHeld K hK
              have hHeld := hHeld2
              clear hHeld2
              (try simp only [Act.put, List.setIfInBounds_toArray, List.set_cons_zero, List.set_cons_succ])
              refine wpAnyH_ready (rs := [6]) (by kernel_rfl) (by simp) ?_
              refine AllReadyH.cons rfl (fun K hK => ?_) (AllReadyH.nil)
              go_simp
              rw [← hY2]
              clear hY2
              refine hK.out _ _ Z1.out (fun hHeld2 => ?_)
              clear hHeld K hK
              have hHeld := hHeld2
              clear hHeld2
              (try simp only [Act.put, List.setIfInBounds_toArray, List.set_cons_zero, List.set_cons_succ])
              refine wpAnyH_ready (rs := [7]) (by kernel_rfl) (by simp) ?_
              refine AllReadyH.cons rfl (fun K hK => ?_) (AllReadyH.nil)
              refine step_push (by rfl) _ _ (by rfl) (by simp [Act.eval]) HR.out.1 ⟨Yd.heap.size, 0, none⟩ (natV kk) (by simp [Act.eval]) HR.out.2.1 (by simp [natV, Value.oneCell']) HR.out.2.2 ?_
              intro v' w5 hp
              obtain ⟨sa', ln', cp', hv'⟩ : ∃ sa ln cp, v' = .slice sa ln cp := by obtain ⟨sa, cp, e⟩ := hp.1.form; exact ⟨sa, _, cp, e⟩
              subst hv'
              obtain ⟨p1, p2, p3, p4, p5⟩ := HP.out _ w5 hp
              have f3 := blk_frozen p3 c
              have HE := Lib.hid (And.intro p4 p5)
              clear p3 p4 p5 hp
              refine hK.out _ _ p1 (fun hHeld2 => ?_)
              clear hHeld K hK
              have hHeld := hHeld2
              clear hHeld2
              (try simp only [Act.put, List.setIfInBounds_toArray])
              refine wpAnyH_take (i := 8) (v := ?v6) rfl (by kernel_rfl) (by kernel_rfl) (by kernel_rfl) (fun _ _ _ h => h) (Or.inl ⟨by rfl, ?hy6⟩) (by assumption) ?rest6
              case hy6 => intro w hSw; (try dsimp only at hSw); go_simp; try with_reducible rfl
              (try simp only [Act.put])
              refine wpAnyH_ready (rs := [9]) (by kernel_rfl) (by simp) ?_
              refine AllReadyH.cons rfl (fun K hK => ?_) (AllReadyH.nil)
              go_simp
              refine hK.out _ _ ((World.cell?_setCell_far w5 ⟨Qb, c, none⟩ ⟨B, 1, none⟩ _ (by have := HQB.out.1; show Qb ≠ B; omega)).trans p1) (fun hHeld2 => ?_)
              clear hHeld K hK
              have hHeld := hHeld2
              clear hHeld2
              (try simp only [Act.put, List.setIfInBounds_toArray, List.set_cons_zero, List.set_cons_succ])
              refine wpAnyH_done (by kernel_rfl) ?_ _
              have d0 : (w5.setCell ⟨Qb, c, none⟩ (.slice sa' ln' cp')).cell? ⟨C, 0, none⟩ = some (.int .i64 0) := by rw [World.cell?_setCell_far w5 _ _ _ (show Qb ≠ C by have := HQB.out.2; omega), blk_cell HE.out.1]; rfl
              have HT := Lib.hid (show ∃ vq', RdA w (w5.setCell ⟨Qb, c, none⟩ (.slice sa' ln' cp')) L (f.step L kk kk) Qb vq' q' from ⟨_, HE.out.2⟩)
              clear p1 p2 f3 HE hHeld
              generalize w5.setCell ⟨Qb, c, none⟩ (.slice sa' ln' cp') = V at *
              go_upto_region 24 with fail
              clear d0
            case' refine_2 =>
              go_simp
              rw [← hY2]
              clear hY2
              refine hK.out _ _ Z1.out (fun hHeld2 => ?_)
              clear hHeld K hK
              have hHeld := hHeld2
              clear hHeld2
              (try simp only [Act.put, List.setIfInBounds_toArray, List.set_cons_zero, List.set_cons_succ])
              have q1 := ZQ.out
              refine wpAnyH_ready (rs := [3]) (by kernel_rfl) (by simp) ?_
              refine AllReadyH.cons rfl (fun K hK => ?_) (AllReadyH.nil)
              go_simp
              refine hK.out _ _ Z1.out (fun hHeld2 => ?_)
              clear hHeld K hK
              have hHeld := hHeld2
              clear hHeld2
              (try simp only [Act.put, List.setIfInBounds_toArray, List.set_cons_zero, List.set_cons_succ])
              refine wpAnyH_ready (rs := [7]) (by kernel_rfl) (by simp) ?_
              refine AllReadyH.cons rfl (fun K hK => ?_) (AllReadyH.nil)
              refine step_push (by rfl) _ _ (by rfl) (by simp [Act.eval]) HR.out.1 ⟨Yd.heap.size, 0, none⟩ (natV kk) (by simp [Act.eval]) HR.out.2.1 (by simp [natV, Value.oneCell']) HR.out.2.2 ?_
              intro v' w5 hp
              obtain ⟨sa', ln', cp', hv'⟩ : ∃ sa ln cp, v' = .slice sa ln cp := by obtain ⟨sa, cp, e⟩ := hp.1.form; exact ⟨sa, _, cp, e⟩
              subst hv'
              obtain ⟨p1, p2, p3, p4, p5⟩ := HP.out _ w5 hp
              have f3 := blk_frozen p3 c
              have HE := Lib.hid (And.intro p4 p5)
              clear p3 p4 p5 hp
              refine hK.out _ _ p1 (fun hHeld2 => ?_)
              clear hHeld K hK
              have hHeld := hHeld2
              clear hHeld2
              (try simp only [Act.put, List.setIfInBounds_toArray])
              refine wpAnyH_take (i := 8) (v := ?v7) rfl (by kernel_rfl) (by kernel_rfl) (by kernel_rfl) (fun _ _ _ h => h) (Or.inl ⟨by rfl, ?hy7⟩) (by assumption) ?rest7
              case hy7 => intro w hSw; (try dsimp only at hSw); go_simp; try with_reducible rfl
              (try simp only [Act.put])
              refine wpAnyH_ready (rs := [9]) (by kernel_rfl) (by simp) ?_
              refine AllReadyH.cons rfl (fun K hK => ?_) (AllReadyH.nil)
              go_simp
              refine hK.out _ _ ((World.cell?_setCell_far w5 ⟨Qb, c, none⟩ ⟨B, 1, none⟩ _ (by have := HQB.out.1; show Qb ≠ B; omega)).trans p1) (fun hHeld2 => ?_)
              clear hHeld K hK
              have hHeld := hHeld2
              clear hHeld2
              (try simp only [Act.put, List.setIfInBounds_toArray, List.set_cons_zero, List.set_cons_succ])
              refine wpAnyH_done (by kernel_rfl) ?_ _
              have d0 : (w5.setCell ⟨Qb, c, none⟩ (.slice sa' ln' cp')).cell? ⟨C, 0, none⟩ = some (.int .i64 0) := by rw [World.cell?_setCell_far w5 _ _ _ (show Qb ≠ C by have := HQB.out.2; omega), blk_cell HE.out.1]; rfl
              have HT := Lib.hid (show ∃ vq', RdA w (w5.setCell ⟨Qb, c, none⟩ (.slice sa' ln' cp')) L (f.step L kk kk) Qb vq' q' from ⟨_, HE.out.2⟩)
              clear p1 p2 f3 HE hHeld
              generalize w5.setCell ⟨Qb, c, none⟩ (.slice sa' ln' cp') = V at *
              go_upto_region 24 with fail
              clear d0
          case' inr.inr =>
            have HD := Lib.hid hd.symm
            clear hd
            obtain ⟨g, off, cap, hvc, hcap, _⟩ := (show RowQ X (vq c) ((kk :: q' c).map natV) by rw [← eq0]; exact HX.out.1.row c hc8).head
            rw [List.length_map] at hvc hcap
            obtain ⟨m, hm⟩ : ∃ m, m = (q' c).length + 1 := ⟨_, rfl⟩
            rw [← hm] at hcap hvc
            have m1' : ((m : Int) == 0) = false := beq_false_of_ne (by omega)
            have m1 : 1 ≤ m := by omega
            have m0 : (0 : Int) < m := by omega
            have m2 : ¬ ((m : Int) ≤ 0) := by omega
            have m8 : m ≤ 8 := by rw [hm]; have := HX.out.2.2.1.len c; rw [eq0, List.length_cons] at this; exact this
            clear hm
            go_upto_region 21 with (go_at_call 12; (with_reducible refine (ls_step HX.out.1.ls (kk : Int) (kk : Int) 0 (by have := HX.out.2.2.2.1; omega)).mono ?_); intro e w2 hq; unfold LsPost at hq; obtain ⟨rfl, hL2, hW2⟩ := hq; rw [HD.out]; dsimp only [Dd.val]; have b2 := (hW2.block B (blk_lt HX.out.2.1) (fun e => by have := HX.out.2.2.2.2.1; unfold Low at e; omega)).trans HX.out.2.1; have H2 := Lib.hid (And.intro (HX.out.1.call hL2 hW2) b2); clear hL2 hW2 b2)
            obtain ⟨Y, hY⟩ : ∃ Y, Y = w2.alloc (.cells #[.int .i64 1, .bool false, .bool false, .bool bb] 41) := ⟨_, rfl⟩
            obtain ⟨C, hC⟩ : ∃ C, C = w2.heap.size := ⟨_, rfl⟩
            have y1 : Y.cell? ⟨B, 1, none⟩ = some (.int .i64 (kk : Int)) := by rw [hY]; exact ((Wrote.refl Nil w2).alloc _).old (by rw [blk_cell H2.out.2]; rfl)
            have hAY : RdA w Y L (f.step L kk kk) Qb vq q := by rw [hY]; exact H2.out.1.after ((Wrote.refl _ _).alloc _)
            have q1 := hAY.cell hc8
            rw [hvc] at q1
            obtain ⟨g', off', cap', he, _, r0⟩ := (show RowQ Y (.slice (some ⟨g, off, none⟩) m cap) ((kk :: q' c).map natV) by rw [← eq0, ← hvc]; exact hAY.row c hc8).head
            simp only [Value.slice.injEq, Option.some.injEq, Addr.mk.injEq, and_true] at he
            obtain ⟨⟨rfl, rfl⟩, he, rfl⟩ := he
            clear he
            replace r0 : Y.cell? ⟨g, off, none⟩ = some (.int .i64 (kk : Int)) := r0
            have H3 := Lib.hid hAY
            have cI : (c : Int) < 8 := by omega
            have c0I : (0 : Int) ≤ c := by omega
            rw [← hY, ← hC]
            clear hY hC H2 hAY
            go_big_quiet (fail)
            generalize hZ : Y.drewN _ = Z
            have hAZ : RdA w Z L (f.step L kk kk) Qb vq q := by rw [← hZ]; exact H3.out.after ((Wrote.refl _ _).drewN _)
            have q1 := hAZ.cell hc8
            rw [hvc] at q1
            have f1 := hAZ.frz c
            have H4 := Lib.hid hAZ
            have HV := Lib.hid hvc
            clear hZ y1 r0 H3 hAZ hvc
            go_upto_region 24 with fail
            have HT := Lib.hid (show ∃ vq', RdA w (Z.setCell ⟨Qb, c, none⟩ (.slice (if cap = 1 then some ⟨g, off, none⟩ else some ⟨g, off + 1, none⟩) (m - 1) (cap - 1))) L (f.step L kk kk) Qb vq' q' from ⟨_, H4.out.cut hc8 HV.out eq0 eq1 (by split <;> first | exact .inr rfl | exact .inl ⟨rfl, by assumption⟩)⟩)
            generalize (Value.slice (if cap = 1 then some ⟨g, off, none⟩ else some ⟨g, off + 1, none⟩) (m - 1) (cap - 1)) = qv at *
            generalize Z.setCell ⟨Qb, c, none⟩ qv = V at *
            clear q1 f1
          all_goals
            obtain ⟨vq', hA⟩ := HT.out
            obtain ⟨Hb, hHb⟩ : ∃ Hb, Hb = V.heap.size := ⟨_, rfl⟩
            obtain ⟨V2, hV2⟩ : ∃ V2, V2 = V.alloc (.cells #[.int .i64 0, .int .i64 0, .int .i64 0, .int .i64 0, .int .i64 0, .int .i64 0, .int .i64 0, .int .i64 0, .int .i64 0, .int .i64 0] 43) := ⟨_, rfl⟩
            have hR : RdH w V2 L (f.step L kk kk) Qb vq' q' Hb (fun _ => 0) := by rw [hV2, hHb]; exact RdH.start hA
            obtain ⟨fs, hfs⟩ : ∃ fs, fs = f.step L kk kk := ⟨_, rfl⟩
            rw [← hfs] at hR HO
            have HRR := Lib.hid hR
            clear hA HT hfs hR
            go_upto_region 25 with fail
            rw [← hV2, ← hHb]
            clear hV2 hHb
            go_wp2
            go_loopw [13, 123] (fun v13 i wy => ∃ (j : Nat) (cc : Int) (h : Nat → Int), j ≤ len0 ∧ i = .int .i64 j ∧ v13 = .int .i64 cc ∧ HoldQ fs j cc ∧ HadQ fs j h ∧ RdH w wy L fs Qb vq' q' Hb h) (fun _ i _ => len0 - (intOf i).toNat)
            case atStart => exact ⟨0, 0, fun _ => 0, Nat.zero_le _, rfl, rfl, .inl ⟨rfl, fun t ht => by omega⟩, fun m => .inl rfl, HRR.out⟩
            case round =>
              clear HRR
              obtain ⟨j, cc, h, hj, rfl, rfl, hH, hG, hR⟩ := hrel
              by_cases hjn : j < len0
              · have jn : (j : Int) < len0 := by omega
                obtain ⟨g', Q', W', hO2, _, hn2, _⟩ := HO.out.1
                have hjs : j < fs.s.n := by have := HS.out; omega
                obtain ⟨e1, e2, e3⟩ := node_rng hO2 hjs
                obtain ⟨e4, hG2⟩ := hG.new hO2 hjs
                have cN := ls_node hR.r.ls (j : Int)
                have eN : fs.nodeI (j : Int) = fs.nd j := by unfold FL.nodeI; rw [if_pos (by omega), Int.toNat_natCast]
                rw [eN, e1] at cN
                have eS : fs.s.stI (j : Int) = fs.s.st j := by unfold SS.stI; rw [if_pos (by omega), Int.toNat_natCast]
                obtain ⟨y, hy⟩ : ∃ y, y = fs.nN j := ⟨_, rfl⟩
                rw [← hy] at cN e2 e3 e4 hG2
                have hyn : y ≤ len0 + 1 := by have := HS.out; omega
                have yh : wr.cell? ⟨Hb, y, none⟩ = some (.int .i64 0) := by rw [blk_cell hR.had, arr10_at h (show y < 10 by omega), e4]
                have yz := blk_frozen hR.had y
                have b1 : (1 : Int) ≤ y := by omega
                have b2 : ¬ ((y : Int) < 1) := by omega
                have b3 : ¬ ((len0 : Int) + 1 < y) := by omega
                have b4 : (y : Int) < 10 := by omega
                have b5 : (y : Int) ≤ (len0 : Int) + 1 := by omega
                have hw1 : IntKind.i64.wrap ((len0 : Int) + 1) = (len0 : Int) + 1 := by rw [IntKind.wrap_i64]; omega
                have hR2 := hR.set y 1
                have cS := ls_state hR2.r.ls (j : Int)
                rw [eS] at cS
                have c0 := hR2.r.ls.cell0
                have HR2 := Lib.hid (And.intro hR2 hG2)
                by_cases hs : fs.s.st j = 2
                · obtain ⟨rfl, hH2⟩ := HoldQ.yes hO2 hjs hH hs
                  rw [hs] at cS
                  have HH2 := Lib.hid hH2
                  clear hH hH2 hs eS eN e1 e4 hG hG2 hR hR2 hO2 hn2 hy
                  go_wp2_with (first
                    | (go_at_call 13; (with_reducible refine cN.mono ?_); rintro e w3 ⟨rfl, rfl⟩)
                    | (go_at_call 14; (with_reducible refine cS.mono ?_); rintro e w3 ⟨rfl, rfl⟩))
                  go_roundw
                  case rel => exact ⟨j + 1, 1, _, by omega, by go_num, rfl, HH2.out, HR2.out.2, HR2.out.1⟩
                  case measure => simp [intOf]; omega
                · have bs : (fs.s.st j == 2) = false := beq_false_of_ne hs
                  have HH2 := Lib.hid (hH.no hs)
                  generalize fs.s.st j = x at cS bs
                  clear hH hs eS eN e1 e4 hG hG2 hR hR2 hO2 hn2 hy
                  go_wp2_with (first
                    | (go_at_call 13; (with_reducible refine cN.mono ?_); rintro e w3 ⟨rfl, rfl⟩)
                    | (go_at_call 14; (with_reducible refine cS.mono ?_); rintro e w3 ⟨rfl, rfl⟩))
                  go_roundw
                  case rel => exact ⟨j + 1, cc, _, by omega, by go_num, rfl, HH2.out, HR2.out.2, HR2.out.1⟩
                  case measure => simp [intOf]; omega
              · have hc : cc ≤ 1 := by rcases hH with ⟨e, _⟩ | ⟨e, _⟩ <;> omega
                have hc2 : ¬ (1 : Int) < cc := by omega
                have HF := Lib.hid hR.r
                clear hH hG hR
                go_wp2
                go_roundw
                case rel => exact ⟨k + 1, by omega, by go_num, fs, vq', q', HF.out, HO.out.1, HO.out.2⟩
                case measure => simp [intOf]; omega
        · have k4 : (K == 4) = false := beq_false_of_ne hK4
          have k5 : (K != 4) = true := by simpa [bne, BEq.beq] using hK4
          clear hK1 hK2 hK4
          go_wp2
          go_roundw
          case rel => exact ⟨k + 1, by omega, by go_num, f, vq, q, HX.out.1, HX.out.2.2.1, Nat.le_succ_of_le HX.out.2.2.2.1⟩
          case measure => simp [intOf]; omega
      · have HQ := Lib.hid hQ.ls.wr
        clear hQ hO hD
        go_wp2_with (go_at_call 8; with_reducible refine (fl_awake _).mono ?_; intro e w5 hq; unfold AwakePost at hq; obtain ⟨rfl, hW5⟩ := hq)
        go_ret
        exact ⟨rfl, (HQ.out.nil hW5).law⟩

/-! the row -/
set_option maxRecDepth 100000 in
theorem lifted (os : Os) (started : os.Started) (H : Type) (enc : TypeId × Value → H) :
    ReturnsInHanded {} Try.checked os 3 .any (Rows.hierOrderSpec.pre6 enc Try.prog Try.f3 Rows.hierOrderRow.domain false) (Rows.hierOrderSpec.post enc Try.prog Try.f3 false true false false) := by
  refine returnsInHanded_of_change (C := Try.checked) own started (by kernel_rfl) Try.func3
    (ChangeSpec.witness6 (enc := enc) (C := Try.checked) false ⟨#[], #[.slice none 0 0, .slice none 0 0], []⟩ 8 (by kernel_rfl) (by kernel_rfl) (by kernel_rfl) (by kernel_rfl)) ?_
  intro W base args ds gs before hval0 hW hcnd _
  have hval : ∀ (j : Nat) t v, Try.f3.params[j]? = some t → args[j]? = some v → Value.okWide Try.prog W .any base t v := hval0
  have hW' := hW
  obtain ⟨p, q, hA0, hV, rfl, hfz, hnd⟩ := hW
  have hA : DataW.TrodAll enc Try.prog W 0 (fun _ => true) true Try.f3.params.toList args.toList ds p := hA0
  rw [Try.params3] at hA hval
  obtain ⟨v0, vs0, d0, ds0, p0, q0, hargs, rfl, rfl, h0, r0'⟩ := trodAll_cons hA
  obtain ⟨v1, vs1, d1, ds1, p1, q1, rfl, rfl, rfl, h1, r1'⟩ := trodAll_cons r0'
  obtain ⟨rfl, rfl, rfl⟩ := trodAll_nil r1'
  obtain rfl : args = #[v0, v1] := by cases args; simp_all
  obtain ⟨rfl, rfl⟩ := trodVars_none hV
  have k0 := h0
  have lt0 : ∀ x ∈ p0, x.block < W.heap.size := by obtain ⟨m, hm⟩ := k0; exact DataW.trod_lt m _ _ _ hm
  obtain ⟨s0, len0, cap0, rfl⟩ := okWide_slice Try.underlying22 (hval 0 22 v0 rfl rfl)
  obtain ⟨l0, z0, r0, w0⟩ := open_slice_row Try.underlying22 Try.underlying3 (by kernel_rfl) h0
  have k1 := h1
  have lt1 : ∀ x ∈ p1, x.block < W.heap.size := by obtain ⟨m, hm⟩ := k1; exact DataW.trod_lt m _ _ _ hm
  obtain ⟨s1, len1, cap1, rfl⟩ := okWide_slice Try.underlying23 (hval 1 23 v1 rfl rfl)
  obtain ⟨l1, z1, r1⟩ := open_slice_ints (ks := [.i64, .i64, .i64, .i64]) Try.underlying23 Try.underlying32 (by kernel_rfl) (by kernel_rfl) h1
  clear hA0 hval0
  refine (walk s0 len0 cap0 z0 s1 len1 cap1 z1 W l0 r0 w0 l1 r1).mono fun e W' ⟨he, bel⟩ => ?_
  subst he
  exact ⟨_, rfl, _, _, _, [], _, [], hW', trodAll_mk1 (shut_bool Try.underlying4 _), (trodAll_cons_mk (Below.trod laidOut (by kernel_rfl) (of_decide_eq_true (by kernel_rfl)) k0 bel lt0) (trodAll_cons_mk (Below.trod laidOut (by kernel_rfl) (of_decide_eq_true (by kernel_rfl)) k1 bel lt1) trodAll_mk0)), rfl, bel.frame _, fun h => by cases h⟩

theorem over : Rows.hierOrderRow.holds Try.pinned (OpenSpec.ofChange Rows.hierOrderSpec) :=
  OpenClaim.holds_of_wide 3 Try.f3 rfl rfl rfl rfl rfl rfl rfl ⟨rfl, rfl, rfl, rfl, rfl⟩ rfl rfl rfl rfl rfl (by kernel_rfl) Try.func3 (by kernel_rfl)
    (of_decide_eq_true (by kernel_rfl)) (by unfold Func.isWrapper; first | (rw [if_pos (by decide +kernel)]; kernel_rfl) | (rw [if_neg (by decide +kernel)]; exact ⟨rfl, rfl⟩))
    (fun os started H enc _ => lifted os started H enc)

/-- the statement -/
theorem proved : Rows.HierOrderSaid := over
#print axioms proved
end Go.Proofs.Yteacdcdjdbobnaa.hierOrder
