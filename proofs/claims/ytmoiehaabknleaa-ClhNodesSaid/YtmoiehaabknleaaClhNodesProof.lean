/- For every input the Go function ClhNodes of weighlocklaw12 returns true, and its arguments read afterwards as before. Conditions: none. -/
import Derived.Test.YtmoiehaabknleaaRows
import Derived.WalkKit
import Derived.ProofKit
import Derived.OpenShut
import Derived.ChangeOld
import Derived.Below
import Derived.Carry
import Derived.BigFrame
import Derived.BigQuiet
import Derived.Deep.CutRange
import Derived.Deep.CutBlock
import Derived.Test.YtmoiehaabknleaaLockOrd
import Derived.Test.YtmoiehaabknleaaClhLaw
namespace Go.Proofs.Ytmoiehaabknleaa.clhNodes
open Go.ChangeShapes Go.WideShapes Go.ChangeAt Go.RowKit
set_option linter.unusedVariables false

theorem own : ownKnob Try.prog.godebug = none := by kernel_rfl
theorem laidOut : laidOutB Try.prog = true := by kernel_rfl

/-! the walk -/
/-- between two calls -/
def NodSt (w0 wr : World) (L : Lp) (n k : Nat) : Prop := ∃ (f : FL) (W : List Nat), LkS w0 wr L f ∧ OrdI f W ∧ f.ps.D.length ≤ k ∧ f.s.n = n
/-- which nodes the first m contexts have -/
def cntN (f : FL) : Nat → Nat → Int
  | 0 => fun _ => 0
  | m + 1 => upd (cntN f m) (f.node m).toNat 1
theorem cntN_free (f : FL) (x : Nat) : ∀ m, (∀ t, t < m → (f.node t).toNat ≠ x) → cntN f m x = 0
  | 0, _ => rfl
  | m + 1, h => by
    show upd (cntN f m) (f.node m).toNat 1 x = 0
    rw [upd_other _ _ fun e => h m (Nat.lt_succ_self _) e.symm]
    exact cntN_free f x m fun t ht => h t (Nat.lt_succ_of_lt ht)
/-- while it looks at the contexts -/
structure HadSt (w0 wx : World) (L : Lp) (f : FL) (g H n m : Nat) : Prop where
  ls : LkS w0 wx L f
  row : wx.rowIs g 64 (n + 2) (fun j => .int .u32 (f.ps.ws.getD j 0))
  had : wx.rowIs H 63 9 (fun j => .int .i64 (cntN f m j))
  ap : g ≠ H ∧ L.q.k3 ≤ H ∧ w0.heap.size ≤ H
theorem HadSt.more {w0 wx : World} {L : Lp} {f : FL} {g H n m x : Nat} (h : HadSt w0 wx L f g H n m) (hx : f.node m = (x : Int)) : HadSt w0 (wx.setCell ⟨H, x, none⟩ (.int .i64 1)) L f g H n (m + 1) := by
  have k : Wrote (One H) wx (wx.setCell ⟨H, x, none⟩ (.int .i64 1)) := (Wrote.refl _ wx).setCell _ _ fun _ => rfl
  have ap := h.ap
  refine ⟨h.ls.apart k fun b e => by have e : b = H := e; omega, h.row.of_block (k.block _ h.row.lt fun e => ap.1 e), (h.had.set x (.int .i64 1)).congr fun j hj => ?_, h.ap⟩
  show (if j = x then _ else _) = Value.int .i64 (upd (cntN f m) (f.node m).toNat 1 j)
  rw [hx, Int.toNat_natCast]
  by_cases e : j = x
  · subst e; rw [if_pos rfl, upd_same]
  · rw [if_neg e, upd_other _ _ e]
set_option maxRecDepth 100000 in
set_option maxHeartbeats 4000000 in
theorem walk (s0 : Option Addr) (len0 cap0 : Nat) (z0 : List Int) (s1 : Option Addr) (len1 cap1 : Nat) (z1 : Nat → Nat → Int) (w : World) (l0 : len0 ≤ cap0 ∧ cap0 ≤ maxLen ∧ (s0 = none → cap0 = 0)) (r0 : RowAt .i64 w s0 len0 z0) (w0 : ∀ z ∈ z0, (Lit.int .i64 z).wf = true) (l1 : len1 ≤ cap1 ∧ cap1 ≤ maxLen ∧ (s1 = none → cap1 = 0)) (r1 : Structs w [.i64, .i64, .i64, .i64] s1 len1 z1) :
    Calls Try.prog 4 #[.slice s0 len0 cap0, .slice s1 len1 cap1] w fun e w' => e = .returned (.bool true) ∧ Below w.heap.size w w' := by
  have hm0 : len0 ≤ 9223372036854775807 := by have := l0.1; have := l0.2.1; unfold maxLen at this; omega
  have hm1 : len1 ≤ 9223372036854775807 := by have := l1.1; have := l1.2.1; unfold maxLen at this; omega
  have hat : OpsAt w s1 len1 z1 := by
    rcases r1.at (by decide) with e | ⟨b2, o2, rfl, hc2⟩
    · exact .inl e
    · exact .inr ⟨b2, o2, rfl, fun i hi j hj => (hc2 i hi j .i64 (by match j, hj with | 0, _ => rfl | 1, _ => rfl | 2, _ => rfl | 3, _ => rfl)).1⟩
  have cF := fine_any (cap := cap0) r0 hm0 s1 len1 cap1 (by omega)
  cases hf : fineB len0 z0 len1
  · rw [hf] at cF
    clear r0 hf w0 l0 l1 r1 hat
    go_enter Try.func4, Try.ntmps4
    go_wp2_with (first
      | (go_at_call 8; with_reducible refine cF.mono ?_; rintro e w2 ⟨rfl, rfl⟩)
      | (go_at_call 9; with_reducible refine (fl_awake _).mono ?_; intro e w2 hq; unfold AwakePost at hq; obtain ⟨rfl, hW⟩ := hq))
    go_ret
    exact ⟨rfl, hW.law⟩
  rw [hf] at cF
  obtain ⟨n1, n8, ho, hm⟩ := fineB_no hf
  rcases r0.at with e0 | ⟨b, o, rfl, hc⟩
  · omega
  have hb : b < w.heap.size := World.block_lt_of_cell? w _ (hc 0 (by omega))
  have HH := Lib.hid (And.intro r0 (And.intro ho (And.intro hb hat)))
  have cP := fun W => plnew_any (len0 : Int) W
  clear r0 hf w0 l0 l1 r1 hat hc ho hb
  go_enter Try.func4, Try.ntmps4
  go_wp2_with (first
    | (go_at_call 8; with_reducible refine cF.mono ?_; rintro e w2 ⟨rfl, rfl⟩)
    | (go_at_call 10; (with_reducible refine (cP _).mono ?_); rintro e w1 ⟨q, rfl, hP, hnew, hW1⟩; have H1 := Lib.hid (And.intro hP (And.intro hnew hW1)); clear hP hnew hW1)
    | (go_at_call 11; (with_reducible refine (fn_new H1.out.1 (HH.out.1.after H1.out.2.2) HH.out.2.1 n1 (by omega) (Nat.zero_le _) (fun e => by have := H1.out.2.1 _ e; have := HH.out.2.2.1; omega)).mono ?_); intro e w2 hq; unfold NewClhPost at hq; obtain ⟨L0, q2, he, hR, hl, ha1, ha2, hqq, hP2, hW2, hC2⟩ := hq; obtain ⟨lb, hlb0⟩ : ∃ lb, lb = L0.lb := ⟨_, rfl⟩; rw [← hlb0] at he; subst he; have HB := Lib.hid hlb0; clear hlb0; have cQ := fl_port (w0 := w) (zs := z0) H1.out.2.2 H1.out.2.1 n1 (by omega) HH.out.2.1 HH.out.1.len hR hl ha1 ha2 hqq hP2 hW2; clear hR hl ha1 ha2 hqq hP2 hW2 hC2)
    | (go_at_call 12; (with_reducible refine cQ.mono ?_); clear cQ; rintro e w3 ⟨L, rfl, ⟨ha1, ha2, hL⟩, hlb, hhs⟩; rw [← HB.out] at hlb; clear HB; subst hlb; have HA := Lib.hid (And.intro ha1 (And.intro ha2 hhs)); have H2 := Lib.hid hL; clear ha1 ha2 hL hhs)
    | (go_at_call 19; (with_reducible refine (lp_use H2.out).mono ?_); rintro e w4 ⟨rfl, hL, _⟩; have H3 := Lib.hid hL; clear hL H2))
  have hst0 : NodSt w w4 L len0 0 := ⟨_, _, H3.out, ⟨none, 0, ord_new len0 n8⟩, Nat.le_refl _, rfl⟩
  have HS0 := Lib.hid hst0
  clear hst0 H3 cF cP H1
  go_loopw [48] (fun i wr => ∃ k : Nat, k ≤ len1 ∧ i = .int .i64 k ∧ NodSt w wr L len0 k) (fun i _ => len1 - (intOf i).toNat)
  case atStart => exact ⟨0, Nat.zero_le _, rfl, HS0.out⟩
  case round =>
    clear HS0
    obtain ⟨k, hk, rfl, hst⟩ := hrel
    unfold NodSt at hst
    obtain ⟨f, W, hLs, hO, hD, hfn⟩ := hst
    by_cases hlt : k < len1
    · rcases HH.out.2.2.2 with e0 | ⟨gb, go, rfl, hcell⟩
      · omega
      have y0 : wr.cell? ⟨gb, go + k * 4, none⟩ = some (.int .i64 (z1 k 0)) := hLs.wr.old (hcell k hlt 0 (by decide))
      have y1 : wr.cell? ⟨gb, go + k * 4 + 1, none⟩ = some (.int .i64 (z1 k 1)) := hLs.wr.old (hcell k hlt 1 (by decide))
      have y2 : wr.cell? ⟨gb, go + k * 4 + 2, none⟩ = some (.int .i64 (z1 k 2)) := hLs.wr.old (hcell k hlt 2 (by decide))
      have y3 : wr.cell? ⟨gb, go + k * 4 + 3, none⟩ = some (.int .i64 (z1 k 3)) := hLs.wr.old (hcell k hlt 3 (by decide))
      generalize z1 k 0 = K at y0
      generalize z1 k 1 = t at y1
      generalize z1 k 2 = N at y2
      generalize z1 k 3 = la at y3
      clear hcell
      obtain ⟨X, hX⟩ : ∃ X, X = wr.alloc (.cells #[.int .i64 K, .int .i64 t, .int .i64 N, .int .i64 la] 52) := ⟨_, rfl⟩
      have hLX : LkS w X L f := by rw [hX]; exact hLs.after ((Wrote.refl _ _).alloc _)
      have hB : X.heap[wr.heap.size]? = some (.cells #[.int .i64 K, .int .i64 t, .int .i64 N, .int .i64 la] 52 (0, 0)) := by rw [hX]; exact Go.Deep.blk_alloc_new wr _
      obtain ⟨B, hBe⟩ : ∃ B, B = wr.heap.size := ⟨_, rfl⟩
      have hBq : L.q.k3 ≤ B := by rw [hBe]; exact hLs.lk.top
      rw [← hBe] at hB
      have b0 : X.cell? ⟨B, 0, none⟩ = some (.int .i64 K) := (blk_cell hB 0).trans rfl
      have b1 : X.cell? ⟨B, 1, none⟩ = some (.int .i64 t) := (blk_cell hB 1).trans rfl
      have b2 : X.cell? ⟨B, 2, none⟩ = some (.int .i64 N) := (blk_cell hB 2).trans rfl
      have c0 := hLX.cell0
      have HQ := Lib.hid (And.intro hX (And.intro hBe (And.intro hLX (And.intro hO (And.intro hD (And.intro hfn hBq))))))
      clear hLs hX hBe hLX hB hO hD hfn hBq
      go_upto_region 14 with fail
      rw [← HQ.out.1, ← HQ.out.2.1]
      clear y0 y1 y2 y3
      go_upto_block 2 with fail
      go_cut [] from 54 to 81 (fun wx => NodSt w wx L len0 (k + 1))
      case first =>
        by_cases hK1 : K = 1
        · subst hK1
          have cK := ls_lock HQ.out.2.2.1.drew t N
          go_wp2
          go_region_held3 (fun w' => w'.cell? ⟨B, 1, none⟩ = some (.int .i64 t) ∧ w'.cell? ⟨B, 2, none⟩ = some (.int .i64 N) ∧ w'.cell? ⟨L.lb, 0, none⟩ = some (.pointer (some ⟨L.p, 0, none⟩))) (first | exact ⟨b1, b2, c0⟩ | exact ⟨d1, d2, d0⟩) (first | (go_at_call 20; (with_reducible refine cK.mono ?_); intro e w2 hq; unfold LsPost at hq; obtain ⟨rfl, hL2, hW2⟩ := hq; have hnB : ¬ Low L B := (fun e => by have := HQ.out.2.2.2.2.2.2; unfold Low at e; omega); have d1 := hW2.cell (a := ⟨B, 1, none⟩) b1 hnB; have d2 := hW2.cell (a := ⟨B, 2, none⟩) b2 hnB; have d0 := hL2.cell0; have H2 := Lib.hid hL2; clear hL2 hW2 hnB))
          go_wp2
          go_meet
          exact ⟨_, W, H2.out, HQ.out.2.2.2.1.lock t N, Nat.le_succ_of_le HQ.out.2.2.2.2.1, (SS.lock_n _ _ _).trans HQ.out.2.2.2.2.2.1⟩
        by_cases hK2 : K = 2
        · subst hK2
          have cK := ls_unlock HQ.out.2.2.1.drew t
          go_wp2
          go_region_held3 (fun w' => w'.cell? ⟨B, 1, none⟩ = some (.int .i64 t) ∧ w'.cell? ⟨L.lb, 0, none⟩ = some (.pointer (some ⟨L.p, 0, none⟩))) (first | exact ⟨b1, c0⟩ | exact ⟨d1, d0⟩) (first | (go_at_call 21; (with_reducible refine cK.mono ?_); intro e w2 hq; unfold LsPost at hq; obtain ⟨rfl, hL2, hW2⟩ := hq; have hnB : ¬ Low L B := (fun e => by have := HQ.out.2.2.2.2.2.2; unfold Low at e; omega); have d1 := hW2.cell (a := ⟨B, 1, none⟩) b1 hnB; have d0 := hL2.cell0; have H2 := Lib.hid hL2; clear hL2 hW2 hnB))
          go_wp2
          go_meet
          exact ⟨_, W, H2.out, HQ.out.2.2.2.1.unlock t, Nat.le_succ_of_le HQ.out.2.2.2.2.1, (SS.turn_n _ _ _).trans HQ.out.2.2.2.2.2.1⟩
        have k1 : (K == 1) = false := beq_false_of_ne hK1
        have k2 : (K == 2) = false := beq_false_of_ne hK2
        by_cases hK4 : K = 4
        · subst hK4
          obtain ⟨W', hO', hD', hq⟩ := HQ.out.2.2.2.1.step HA.out.1 HA.out.2.1 t
          have cK := ls_step HQ.out.2.2.1 t t 0 (by have := HQ.out.2.2.2.2.1; omega)
          have hz' : (f.step L t t).s.n = len0 := (SS.fin_n _ _ _).trans HQ.out.2.2.2.2.2.1
          have HO := Lib.hid (And.intro hO' (And.intro (show (f.step L t t).ps.D.length ≤ k + 1 by have := HQ.out.2.2.2.2.1; omega) hz'))
          clear hO' hD' hq hz'
          go_wp2_with (go_at_call 22; (with_reducible refine cK.mono ?_); intro e w2 hq; unfold LsPost at hq; obtain ⟨rfl, hL2, hW2⟩ := hq; have H2 := Lib.hid hL2; clear hL2 hW2 cK)
          go_meet
          exact ⟨_, W', H2.out, HO.out.1, HO.out.2.1, HO.out.2.2⟩
        · have k4 : (K == 4) = false := beq_false_of_ne hK4
          go_wp2
          go_meet
          exact ⟨_, W, HQ.out.2.2.1, HQ.out.2.2.2.1, Nat.le_succ_of_le HQ.out.2.2.2.2.1, HQ.out.2.2.2.2.2.1⟩
      case rest =>
        clear HQ b0 b1 b2 c0
        unfold NodSt at hcut
        obtain ⟨f, W, hLs, hO, hD, hfn⟩ := hcut
        have p0 := hLs.lk.port.cell0
        have cW := words_any hLs.lk.port.mem
        have hnd := hO.nodes
        rw [hfn] at hnd
        have hlen := hnd.2.2.1
        have HL := Lib.hid (And.intro hLs (And.intro hO (And.intro hD (And.intro hfn (And.intro hnd hlen)))))
        clear hLs hO hD hfn hnd hlen
        go_wp2_with (first | (go_at_call 23; (with_reducible refine cW.mono ?_); intro e w5 hq; unfold WordsPost at hq; rw [HL.out.2.2.2.2.2] at hq; obtain ⟨g, rfl, hrow, hg, hW5⟩ := hq; have H5 := Lib.hid (And.intro (HL.out.1.after hW5) hrow); clear hrow hg hW5))
        clear cW p0
        obtain ⟨H, hH⟩ : ∃ H, H = w5.heap.size := ⟨_, rfl⟩
        obtain ⟨Z, hZ⟩ : ∃ Z, Z = w5.alloc (.cells #[.int .i64 0, .int .i64 0, .int .i64 0, .int .i64 0, .int .i64 0, .int .i64 0, .int .i64 0, .int .i64 0, .int .i64 0] 63) := ⟨_, rfl⟩
        have hHad : HadSt w Z L f g H len0 0 := by
          have k5 : Wrote Nil w5 Z := by rw [hZ]; exact (Wrote.refl _ _).alloc _
          refine ⟨H5.out.1.after k5, H5.out.2.of_block (k5.block _ H5.out.2.lt id), ?_, ?_, ?_, ?_⟩
          · rw [hZ, hH]
            exact ⟨_, Go.Deep.blk_alloc_new w5 _, rfl, fun i hi => by match i, hi with | 0, _ => rfl | 1, _ => rfl | 2, _ => rfl | 3, _ => rfl | 4, _ => rfl | 5, _ => rfl | 6, _ => rfl | 7, _ => rfl | 8, _ => rfl⟩
          · have := H5.out.2.lt; omega
          · rw [hH]; exact H5.out.1.lk.top
          · rw [hH]; exact H5.out.1.wr.size
        have HZ := Lib.hid (And.intro hZ (And.intro hH hHad))
        clear hZ hH hHad
        go_upto_region 25 with fail
        rw [← HZ.out.1, ← HZ.out.2.1]
        go_loopw [95] (fun i wx => ∃ m : Nat, m ≤ len0 ∧ i = .int .i64 m ∧ HadSt w wx L f g H len0 m) (fun i _ => len0 - (intOf i).toNat)
        case atStart => exact ⟨0, Nat.zero_le _, rfl, HZ.out.2.2⟩
        case round =>
          obtain ⟨m, hm, rfl, hS⟩ := hrel
          by_cases hml : m < len0
          · obtain ⟨hrg, hinj, _, hfl⟩ := HL.out.2.2.2.2.1
            have hr := hrg m hml
            obtain ⟨x, hx⟩ := Int.eq_ofNat_of_zero_le hr.1
            have hx8 : x ≤ len0 := by omega
            have hx9 : x < 9 := by omega
            have cN := ls_node hS.ls (m : Int)
            have eN : f.nodeI (m : Int) = (x : Int) := by unfold FL.nodeI; rw [if_pos (by rw [HL.out.2.2.2.1]; omega), Int.toNat_natCast, hx]
            rw [eN] at cN
            have eC : cntN f m x = 0 := cntN_free f x m fun t ht e => by
              have h1 := hrg t (by omega)
              have h2 := hinj t m (by omega) hml (by omega)
              omega
            have c9 := hS.had.cell hx9
            rw [eC] at c9
            have z9 := hS.had.frozen x
            have c0 := hS.ls.cell0
            have cS := ls_state hS.ls (m : Int)
            have eS : f.s.stI (m : Int) = f.s.st m := by unfold SS.stI; rw [if_pos (by rw [HL.out.2.2.2.1]; omega), Int.toNat_natCast]
            rw [eS] at cS
            have hfm := hfl m hml
            have cw := hS.row.cell (show x + 1 < len0 + 2 by omega)
            have ew : f.s.st m = 0 → f.ps.ws.getD (x + 1) 0 = 0 := fun e => by have := hfm e; rw [hx, Int.toNat_natCast] at this; exact this
            generalize f.s.st m = y at cS ew
            generalize f.ps.ws.getD (x + 1) 0 = v at cw ew
            have HN := Lib.hid (hS.more hx)
            have hw1 : IntKind.i64.wrap (1 + (x : Int)) = ((x + 1 : Nat) : Int) := by rw [IntKind.wrap_i64]; omega
            have d1 : decide ((x : Int) < 0) = false := decide_eq_false (by omega)
            have d2 : decide (len0 < x) = false := decide_eq_false (by omega)
            clear hS eN eC eS hfm hrg hinj hfl hr hx
            by_cases hy : y = 0
            · subst hy
              obtain rfl : v = 0 := ew rfl
              clear ew
              go_wp2_with (first
                | (go_at_call 18; (with_reducible refine cN.mono ?_); rintro e w6 ⟨rfl, rfl⟩)
                | (go_at_call 24; (with_reducible refine cS.mono ?_); rintro e w6 ⟨rfl, rfl⟩))
              go_roundw
              case rel => exact ⟨m + 1, by omega, by go_num, HN.out⟩
              case measure => simp [intOf]; omega
            · have b1 : (y == 0) = false := beq_false_of_ne hy
              clear ew hy
              go_wp2_with (first
                | (go_at_call 18; (with_reducible refine cN.mono ?_); rintro e w6 ⟨rfl, rfl⟩)
                | (go_at_call 24; (with_reducible refine cS.mono ?_); rintro e w6 ⟨rfl, rfl⟩))
              go_roundw
              case rel => exact ⟨m + 1, by omega, by go_num, HN.out⟩
              case measure => simp [intOf]; omega
          · have HN := Lib.hid hS.ls
            clear hS
            go_wp2
            go_roundw
            case rel => exact ⟨k + 1, by omega, by go_num, _, _, HN.out, HL.out.2.1, HL.out.2.2.1, HL.out.2.2.2.1⟩
            case measure => simp [intOf]; omega
    · obtain rfl : k = len1 := by omega
      have HL := Lib.hid hLs
      clear hLs hO hD hfn
      go_wp2_with (first
        | (go_at_call 9; (with_reducible refine (fl_awake _).mono ?_); intro e w5 hq; unfold AwakePost at hq; obtain ⟨rfl, hW5⟩ := hq))
      go_ret
      exact ⟨rfl, (HL.out.wr.nil hW5).law⟩

/-! the row -/
set_option maxRecDepth 100000 in
theorem lifted (os : Os) (started : os.Started) (H : Type) (enc : TypeId × Value → H) :
    ReturnsInHanded {} Try.checked os 4 .any (Rows.clhNodesSpec.pre6 enc Try.prog Try.f4 Rows.clhNodesRow.domain false) (Rows.clhNodesSpec.post enc Try.prog Try.f4 false true false false) := by
  refine returnsInHanded_of_change (C := Try.checked) own started (by kernel_rfl) Try.func4
    (ChangeSpec.witness6 (enc := enc) (C := Try.checked) false ⟨#[], #[.slice none 0 0, .slice none 0 0], []⟩ 8 (by kernel_rfl) (by kernel_rfl) (by kernel_rfl) (by kernel_rfl)) ?_
  intro W base args ds gs before hval0 hW hcnd _
  have hval : ∀ (j : Nat) t v, Try.f4.params[j]? = some t → args[j]? = some v → Value.okWide Try.prog W .any base t v := hval0
  have hW' := hW
  obtain ⟨p, q, hA0, hV, rfl, hfz, hnd⟩ := hW
  have hA : DataW.TrodAll enc Try.prog W 0 (fun _ => true) true Try.f4.params.toList args.toList ds p := hA0
  rw [Try.params4] at hA hval
  obtain ⟨v0, vs0, d0, ds0, p0, q0, hargs, rfl, rfl, h0, r0'⟩ := trodAll_cons hA
  obtain ⟨v1, vs1, d1, ds1, p1, q1, rfl, rfl, rfl, h1, r1'⟩ := trodAll_cons r0'
  obtain ⟨rfl, rfl, rfl⟩ := trodAll_nil r1'
  obtain rfl : args = #[v0, v1] := by cases args; simp_all
  obtain ⟨rfl, rfl⟩ := trodVars_none hV
  have k0 := h0
  have lt0 : ∀ x ∈ p0, x.block < W.heap.size := by obtain ⟨m, hm⟩ := k0; exact DataW.trod_lt m _ _ _ hm
  obtain ⟨s0, len0, cap0, rfl⟩ := okWide_slice Try.underlying22 (hval 0 22 v0 rfl rfl)
  obtain ⟨l0, z0, r0, w0⟩ := open_slice_row Try.underlying22 Try.underlying3 (by kernel_rfl) h0
  have k1 := h1
  have lt1 : ∀ x ∈ p1, x.block < W.heap.size := by obtain ⟨m, hm⟩ := k1; exact DataW.trod_lt m _ _ _ hm
  obtain ⟨s1, len1, cap1, rfl⟩ := okWide_slice Try.underlying23 (hval 1 23 v1 rfl rfl)
  obtain ⟨l1, z1, r1⟩ := open_slice_ints (ks := [.i64, .i64, .i64, .i64]) Try.underlying23 Try.underlying52 (by kernel_rfl) (by kernel_rfl) h1
  clear hA0 hval0
  refine (walk s0 len0 cap0 z0 s1 len1 cap1 z1 W l0 r0 w0 l1 r1).mono fun e W' ⟨he, bel⟩ => ?_
  subst he
  exact ⟨_, rfl, _, _, _, [], _, [], hW', trodAll_mk1 (shut_bool Try.underlying4 _), (trodAll_cons_mk (Below.trod laidOut (by kernel_rfl) (of_decide_eq_true (by kernel_rfl)) k0 bel lt0) (trodAll_cons_mk (Below.trod laidOut (by kernel_rfl) (of_decide_eq_true (by kernel_rfl)) k1 bel lt1) trodAll_mk0)), rfl, bel.frame _, fun h => by cases h⟩

theorem over : Rows.clhNodesRow.holds Try.pinned (OpenSpec.ofChange Rows.clhNodesSpec) :=
  OpenClaim.holds_of_wide 4 Try.f4 rfl rfl rfl rfl rfl rfl rfl ⟨rfl, rfl, rfl, rfl, rfl⟩ rfl rfl rfl rfl rfl (by kernel_rfl) Try.func4 (by kernel_rfl)
    (of_decide_eq_true (by kernel_rfl)) (by unfold Func.isWrapper; first | (rw [if_pos (by decide +kernel)]; kernel_rfl) | (rw [if_neg (by decide +kernel)]; exact ⟨rfl, rfl⟩))
    (fun os started H enc _ => lifted os started H enc)

/-- the statement -/
theorem proved : Rows.ClhNodesSaid := over
#print axioms proved
end Go.Proofs.Ytmoiehaabknleaa.clhNodes
