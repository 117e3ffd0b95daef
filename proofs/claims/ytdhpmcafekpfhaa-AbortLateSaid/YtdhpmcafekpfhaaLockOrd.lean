/- Whatever is called and stepped of a lock: at most one holds it, and they are granted it in the order of their Enqs. -/
import Derived.Test.YtdhpmcafekpfhaaLockQ
import Derived.Deep.Cut
import Derived.Deep.CutBlock
import Derived.Deep.CutRange
import Derived.Deep.RegionHeld3
import Derived.BigQuiet
import Derived.BigFrame
namespace Go.Proofs.Ytdhpmcafekpfhaa
open Go.RowKit Go.BigFrame
set_option linter.unusedVariables false
set_option maxRecDepth 100000

/-- the calls that came, as they lie in the memory that was there -/
def OpsAt (w0 : World) (so : Option Addr) (n : Nat) (z : Nat → Nat → Int) : Prop := n = 0 ∨ ∃ b o, so = some ⟨b, o, none⟩ ∧ ∀ i, i < n → ∀ j, j < 4 → w0.cell? ⟨b, o + (i * 4 + j), none⟩ = some (.int .i64 (z i j))
/-- between two of them -/
def OrdSt (w0 wr : World) (L : Lp) (k : Nat) (v7 v8 : Value) : Prop := ∃ (nw : Int) (f : FL) (W : List Nat), v7 = .int .i64 nw ∧ (0 ≤ nw ∧ nw ≤ 1000 * (k : Int)) ∧ RdQ w0 wr L f W v8 ∧ OrdI f W ∧ f.ps.D.length ≤ k
/-- behind one, ahead of the count -/
def OrdMid (w0 wr : World) (L : Lp) (k : Nat) (v8 : Value) : Prop := ∃ (f : FL) (W : List Nat), RdQ w0 wr L f W v8 ∧ OrdI f W ∧ f.ps.D.length ≤ k + 1

/-- amid the making of the queue anew, behind j of its m -/
def LeftSt (w0 wy : World) (L : Lp) (f : FL) (kk : Nat) (W : List Nat) (qv : Value) (base B : Nat) (j : Nat) (lv : Value) : Prop := RdL w0 wy L f (kk :: W) qv base (W.take (j - 1)) lv ∧ wy.cell? ⟨B, 1, none⟩ = some (.int .i64 (kk : Int)) ∧ B < base
theorem LeftSt.push {w0 wy w' : World} {L : Lp} {f : FL} {kk : Nat} {W : List Nat} {qv lv v' : Value} {base B j x : Nat} (h : LeftSt w0 wy L f kk W qv base B j lv) (h0 : 0 < j) (hx : W[j - 1]? = some x) (ho : w'.ownsRow base 3 1 v' ((W.take (j - 1)).length + 1) ((W.take (j - 1)).map natV ++ [natV x])) (hg : wy.grownBy w' lv.ownBlock) : LeftSt w0 w' L f kk W qv base B (j + 1) v' := by
  obtain ⟨hL, hB, hb⟩ := h
  have e : W.take (j + 1 - 1) = W.take (j - 1) ++ [x] := by
    rw [show j + 1 - 1 = (j - 1) + 1 by omega, List.take_add_one, hx]
    rfl
  have hW : Wrote (fun j => lv.ownBlock = some j) wy w' := (Wrote.refl _ wy).grown hg fun j hj _ => hj
  unfold LeftSt
  rw [e]
  exact ⟨hL.push ho hg, hW.cell hB fun e => by have := (hL.lt B e).1; omega, hb⟩
theorem LeftSt.skip {w0 wy : World} {L : Lp} {f : FL} {kk : Nat} {W : List Nat} {qv lv : Value} {base B : Nat} (h : LeftSt w0 wy L f kk W qv base B 0 lv) : LeftSt w0 wy L f kk W qv base B 1 lv := h
/-- amid the making of the queue anew, of one that gave up, behind j of its m -/
def GoneSt (w0 wy : World) (L : Lp) (f : FL) (kk : Nat) (W : List Nat) (qv : Value) (base B : Nat) (j : Nat) (lv : Value) : Prop := RdL w0 wy L f W qv base ((W.take j).filter fun t => decide (t ≠ kk)) lv ∧ wy.cell? ⟨B, 1, none⟩ = some (.int .i64 (kk : Int)) ∧ B < base
theorem GoneSt.push {w0 wy w' : World} {L : Lp} {f : FL} {kk : Nat} {W : List Nat} {qv lv v' : Value} {base B j x : Nat} (h : GoneSt w0 wy L f kk W qv base B j lv) (hx : W[j]? = some x) (hk : x ≠ kk) (ho : w'.ownsRow base 3 1 v' (((W.take j).filter fun t => decide (t ≠ kk)).length + 1) (((W.take j).filter fun t => decide (t ≠ kk)).map natV ++ [natV x])) (hg : wy.grownBy w' lv.ownBlock) : GoneSt w0 w' L f kk W qv base B (j + 1) v' := by
  obtain ⟨hL, hB, hb⟩ := h
  have e : ((W.take (j + 1)).filter fun t => decide (t ≠ kk)) = ((W.take j).filter fun t => decide (t ≠ kk)) ++ [x] := by
    rw [List.take_add_one, hx, List.filter_append]
    simp [hk]
  have hW : Wrote (fun j => lv.ownBlock = some j) wy w' := (Wrote.refl _ wy).grown hg fun j hj _ => hj
  unfold GoneSt
  rw [e]
  exact ⟨hL.push ho hg, hW.cell hB fun e => by have := (hL.lt B e).1; omega, hb⟩
theorem GoneSt.skip {w0 wy : World} {L : Lp} {f : FL} {kk : Nat} {W : List Nat} {qv lv : Value} {base B j : Nat} (h : GoneSt w0 wy L f kk W qv base B j lv) (hx : W[j]? = some kk) : GoneSt w0 wy L f kk W qv base B (j + 1) lv := by
  obtain ⟨hL, hB, hb⟩ := h
  have e : ((W.take (j + 1)).filter fun t => decide (t ≠ kk)) = ((W.take j).filter fun t => decide (t ≠ kk)) := by
    rw [List.take_add_one, hx, List.filter_append]
    simp
  unfold GoneSt
  rw [e]
  exact ⟨hL, hB, hb⟩
theorem filter_len8 {W : List Nat} {j kk : Nat} (h : W.length ≤ 8) : ((W.take j).filter fun t => decide (t ≠ kk)).length ≤ 8 := by
  have h1 := List.length_filter_le (fun t => decide (t ≠ kk)) (W.take j)
  have h2 : (W.take j).length ≤ W.length := by rw [List.length_take]; omega
  omega
/-- how many of the first j hold it -/
def HoldQ (f : FL) (j : Nat) (c : Int) : Prop := (c = 0 ∧ ∀ t, t < j → f.s.st t ≠ 2) ∨ (c = 1 ∧ ∃ t, t < j ∧ f.s.st t = 2)
theorem HoldQ.no {f : FL} {j : Nat} {c : Int} (h : HoldQ f j c) (hj : f.s.st j ≠ 2) : HoldQ f (j + 1) c := by
  rcases h with ⟨e, h⟩ | ⟨e, t, ht, h⟩
  · exact .inl ⟨e, fun t ht => by
      by_cases q : t = j
      · subst q; exact hj
      · exact h t (by omega)⟩
  · exact .inr ⟨e, t, by omega, h⟩
theorem HoldQ.yes {f : FL} {W : List Nat} {j : Nat} {c : Int} (hO : OrdI f W) (hn : j < f.s.n) (h : HoldQ f j c) (hj : f.s.st j = 2) : c = 0 ∧ HoldQ f (j + 1) 1 := by
  rcases h with ⟨e, h⟩ | ⟨e, t, ht, h⟩
  · exact ⟨e, .inr ⟨rfl, j, Nat.lt_succ_self j, hj⟩⟩
  · have := hO.one (show t < f.s.n by omega) hn h hj
    omega

set_option maxHeartbeats 8000000 in
theorem ordered_any {w0 w : World} {L : Lp} {f : FL} (h : LkS w0 w L f) (hI : OrdI f []) (h1 : L.a1 = 0) (h2 : L.a2 = 1) (hD : f.ps.D.length = 0) {so : Option Addr} {n cap : Nat} {z : Nat → Nat → Int} (hat : OpsAt w0 so n z) (hn : n ≤ 150) :
    Calls Try.prog 23 #[.iface 26 (.pointer (some ⟨L.lb, 0, none⟩)), .pointer (some ⟨L.q.p, 0, none⟩), .slice so n cap] w (AwakePost w0) := by
  have m0 := via_use ⟨L.lb, 0, none⟩
  have HA := Lib.hid (And.intro hat (And.intro h1 h2))
  have HI := Lib.hid (And.intro hI hD)
  clear hat h1 h2 hI hD
  go_enter Try.func23, Try.ntmps23
  go_wp2_with (go_at_call 26; (with_reducible refine (ls_use h).mono ?_); rintro e w1 ⟨rfl, hL, _⟩)
  have HL := Lib.hid hL
  clear hL h m0
  go_loopw [7, 8, 22] (fun v7 v8 i wr => ∃ k : Nat, k ≤ n ∧ i = .int .i64 k ∧ OrdSt w0 wr L k v7 v8) (fun _ _ i _ => n - (intOf i).toNat)
  case atStart => exact ⟨0, Nat.zero_le _, rfl, 0, f, [], rfl, ⟨Int.le_refl _, by omega⟩, RdQ.empty HL.out, HI.out.1, by rw [HI.out.2]; exact Nat.le_refl _⟩
  case round =>
    clear HL HI f
    obtain ⟨k, hk, rfl, hst⟩ := hrel
    unfold OrdSt at hst
    obtain ⟨nw, f, W, rfl, ⟨nw0, nw1⟩, hQ, hO, hD⟩ := hst
    by_cases hlt : k < n
    · rcases HA.out.1 with e0 | ⟨gb, go, rfl, hcell⟩
      · omega
      have y0 : wr.cell? ⟨gb, go + k * 4, none⟩ = some (.int .i64 (z k 0)) := hQ.ls.wr.old (hcell k hlt 0 (by decide))
      have y1 : wr.cell? ⟨gb, go + k * 4 + 1, none⟩ = some (.int .i64 (z k 1)) := hQ.ls.wr.old (hcell k hlt 1 (by decide))
      have y2 : wr.cell? ⟨gb, go + k * 4 + 2, none⟩ = some (.int .i64 (z k 2)) := hQ.ls.wr.old (hcell k hlt 2 (by decide))
      have y3 : wr.cell? ⟨gb, go + k * 4 + 3, none⟩ = some (.int .i64 (z k 3)) := hQ.ls.wr.old (hcell k hlt 3 (by decide))
      generalize z k 0 = K at y0
      generalize z k 1 = t at y1
      generalize z k 2 = N at y2
      generalize z k 3 = la at y3
      clear hcell
      obtain ⟨X, hX⟩ : ∃ X, X = wr.alloc (.cells #[.int .i64 K, .int .i64 t, .int .i64 N, .int .i64 la] 32) := ⟨_, rfl⟩
      have hQX : RdQ w0 X L f W u8 := by rw [hX]; exact hQ.after ((Wrote.refl _ _).alloc _)
      have hB : X.heap[wr.heap.size]? = some (.cells #[.int .i64 K, .int .i64 t, .int .i64 N, .int .i64 la] 32 (0, 0)) := by rw [hX]; exact Go.Deep.blk_alloc_new wr _
      obtain ⟨B, hBe⟩ : ∃ B, B = wr.heap.size := ⟨_, rfl⟩
      rw [← hBe] at hB
      have HX := Lib.hid (And.intro hX (And.intro hQX (And.intro hB (And.intro hO (And.intro hD hBe)))))
      have hQ' := And.intro hQ.ls.lk.top fun j hj => (hQ.lt j hj).2
      clear hQ hX hQX hB hO hD hBe
      go_upto_block 2 with fail
      obtain ⟨hX, hQX, hB, hO, hD, hBe⟩ := HX.out
      rw [← hX, ← hBe]
      have hbnd : 0 ≤ nw + min (max la 0) 1000 ∧ nw + min (max la 0) 1000 ≤ 1000 * ((k + 1 : Nat) : Int) := by omega
      generalize nw + min (max la 0) 1000 = nv at hbnd ⊢
      have HN := Lib.hid hbnd
      have x1 : X.cell? ⟨B, 1, none⟩ = some (.int .i64 t) := by rw [blk_cell hB]; rfl
      have x2 : X.cell? ⟨B, 2, none⟩ = some (.int .i64 N) := by rw [blk_cell hB]; rfl
      have hc0 := hQX.ls.cell0
      have hBX : L.q.k3 ≤ B ∧ ∀ j, u8.ownBlock = some j → j < B := by rw [hBe]; exact ⟨hQ'.1, hQ'.2⟩
      clear HX hX hBe hbnd nw0 nw1 y0 y1 y2 y3 hQ'
      have HX := Lib.hid (And.intro hQX (And.intro hB (And.intro hO (And.intro hD hBX))))
      clear hQX hB hO hD hBX
      go_cut [8, 11, 12, 14] from 34 to 109 (fun v8 _ _ _ wx => OrdMid w0 wx L k v8)
      case first =>
        by_cases hK1 : K = 1
        · subst hK1
          have m1 := via_lock L.lb ⟨L.p, 0, none⟩ X hc0
          go_wp2_with (go_at_call 11; (with_reducible refine (HX.out.1.ls |> fun hL => ls_lock hL t N).mono ?_); intro e w2 hq; unfold LsPost at hq; obtain ⟨rfl, hL2, hW2⟩ := hq; have H2 := Lib.hid (HX.out.1.call hL2 hW2); clear hL2 hW2)
          go_meet
          exact ⟨_, W, H2.out, HX.out.2.2.1.lock t N, Nat.le_succ_of_le HX.out.2.2.2.1⟩
        by_cases hK2 : K = 2
        · subst hK2
          have m1 := via_unlock L.lb ⟨L.p, 0, none⟩ X hc0
          go_wp2_with (go_at_call 12; (with_reducible refine (HX.out.1.ls |> fun hL => ls_unlock hL t).mono ?_); intro e w2 hq; unfold LsPost at hq; obtain ⟨rfl, hL2, hW2⟩ := hq; have H2 := Lib.hid (HX.out.1.call hL2 hW2); clear hL2 hW2)
          go_meet
          exact ⟨_, W, H2.out, HX.out.2.2.1.unlock t, Nat.le_succ_of_le HX.out.2.2.2.1⟩
        by_cases hK3 : K = 3
        · subst hK3
          have m1 := via_probe L.lb ⟨L.p, 0, none⟩ X hc0
          go_wp2_with (go_at_call 103; (with_reducible refine (HX.out.1.ls |> fun hL => ls_probe hL t).mono ?_); intro e w2 hq; unfold LsPost at hq; obtain ⟨rfl, hL2, hW2⟩ := hq; have H2 := Lib.hid (HX.out.1.call hL2 hW2); clear hL2 hW2)
          go_meet
          exact ⟨_, W, H2.out, HX.out.2.2.1.probe t, Nat.le_succ_of_le HX.out.2.2.2.1⟩
        have k1 : (K == 1) = false := beq_false_of_ne hK1
        have k2 : (K == 2) = false := beq_false_of_ne hK2
        have k3 : (K == 3) = false := beq_false_of_ne hK3
        by_cases hK4 : K = 4
        · subst hK4
          obtain ⟨W', hO', hD', hq⟩ := HX.out.2.2.1.step HA.out.2.1 HA.out.2.2 t nv
          have m1 := via_step ⟨L.lb, 0, none⟩
          obtain ⟨d, hd⟩ : ∃ d, d = f.did L t t nv := ⟨_, rfl⟩
          rw [← hd] at hq
          have HO := Lib.hid (And.intro hO' (show (f.step L t t nv).ps.D.length ≤ k + 1 by have := HX.out.2.2.2.1; omega))
          clear hO' hD'
          cases hq with
          | same e0 e1 e2 eW =>
            subst eW
            obtain ⟨ev, enq, arr, lead⟩ := d
            obtain rfl : enq = false := e0
            have c1 : (ev == 1) = false := beq_false_of_ne e1
            have c2 : (ev == 2) = false := beq_false_of_ne e2
            have HD := Lib.hid hd.symm
            clear hd e1 e2
            go_wp2_with (go_at_call 13; (with_reducible refine (ls_step HX.out.1.ls t t nv (by have := HX.out.2.2.2.1; omega)).mono ?_); intro e w2 hq; unfold LsPost at hq; obtain ⟨rfl, hL2, hW2⟩ := hq; rw [HD.out]; dsimp only [Dd.val]; have b2 := (hW2.block B (blk_lt HX.out.2.1) (fun e => by have := HX.out.2.2.2.2.1; unfold Low at e; omega)).trans HX.out.2.1; have y1 : (w2.alloc (.cells #[.int .i64 ev, .bool false, .bool arr, .bool lead] 42)).cell? ⟨B, 1, none⟩ = some (.int .i64 t) := ((Wrote.refl Nil w2).alloc _).old (by rw [blk_cell b2]; rfl); have H2 := Lib.hid (And.intro (HX.out.1.call hL2 hW2) b2); clear hL2 hW2 b2)
            obtain ⟨Y, hY⟩ : ∃ Y, Y = w2.alloc (.cells #[.int .i64 ev, .bool false, .bool arr, .bool lead] 42) := ⟨_, rfl⟩
            obtain ⟨C, hC⟩ : ∃ C, C = w2.heap.size := ⟨_, rfl⟩
            have yc : Y.heap[C]? = some (.cells #[.int .i64 ev, .bool false, .bool arr, .bool lead] 42 (0, 0)) := by rw [hY, hC]; exact Go.Deep.blk_alloc_new w2 _
            have d0 : Y.cell? ⟨C, 0, none⟩ = some (.int .i64 ev) := by rw [blk_cell yc]; rfl
            have H3 := Lib.hid (show RdQ w0 Y L (f.step L t t nv) W' u8 by rw [hY]; exact H2.out.1.after ((Wrote.refl _ _).alloc _))
            rw [← hY] at y1
            rw [← hY, ← hC]
            clear hY hC yc H2
            go_big_quiet (fail)
            go_wp2
            go_meet
            exact ⟨_, W', H3.out.after ((Wrote.refl _ _).drewN _), HO.out.1, HO.out.2⟩
          | enq hd2 kk ht eW =>
            subst hd2 ht eW
            have HD := Lib.hid hd.symm
            clear hd
            obtain ⟨i0, hi, hz0, hz1, hz2⟩ := info_parts info_int
            have hl8 := HX.out.2.2.1.len
            go_wp2_with (first
              | (go_at_call 13; (with_reducible refine (ls_step HX.out.1.ls (kk : Int) (kk : Int) nv (by have := HX.out.2.2.2.1; omega)).mono ?_); intro e w2 hq; unfold LsPost at hq; obtain ⟨rfl, hL2, hW2⟩ := hq; rw [HD.out]; dsimp only [Dd.val]; have b2 := (hW2.block B (blk_lt HX.out.2.1) (fun e => by have := HX.out.2.2.2.2.1; unfold Low at e; omega)).trans HX.out.2.1; have y1 : (w2.alloc (.cells #[.int .i64 0, .bool true, .bool false, .bool false] 42)).cell? ⟨B, 1, none⟩ = some (.int .i64 (kk : Int)) := ((Wrote.refl Nil w2).alloc _).old (by rw [blk_cell b2]; rfl); have H2 := Lib.hid (And.intro (HX.out.1.call hL2 hW2) b2); clear hL2 hW2 b2)
              | (at_builtin; refine wpList_append_own _ rfl _ _ 22 rfl L.q.k3 3 i0 (.int .i64 0) 1 8 Try.underlying22 hi hz0 hz1 hz2 rfl (by decide) u8 W.length (W.map natV) rfl (H2.out.1.after (((Wrote.refl _ _).alloc _).alloc _)).q ⟨w2.heap.size + 1, 0, none⟩ 1 1 [natV kk] rfl rfl (news_at _ _ _ _ (by simp)) (by simp [natV, Value.oneCell']) (by unfold maxLen; omega) (by omega) (H2.out.1.after (((Wrote.refl _ _).alloc _).alloc _)).ls.lk.top ?_; intro v' w6 hown hgrow hnil; have H6 := Lib.hid (And.intro ((H2.out.1.after (((Wrote.refl _ _).alloc _).alloc _)).push hown hgrow) hgrow); clear hown hgrow hnil))
            obtain ⟨C, hC⟩ : ∃ C, C = w2.heap.size := ⟨_, rfl⟩
            have yc : w6.heap[C]? = some (.cells #[.int .i64 0, .bool true, .bool false, .bool false] 42 (0, 0)) := by
              have hW6 := (Wrote.refl (fun j => u8.ownBlock = some j) _).grown H6.out.2 fun j hj _ => hj
              have e2 := blk_lt H2.out.2
              rw [hC, hW6.block w2.heap.size (by rw [Go.Deep.nblk_alloc, Go.Deep.nblk_alloc]; omega) (fun e => by have := HX.out.2.2.2.2.2 _ e; omega), Go.Deep.blk_alloc_lt _ _ _ (by rw [Go.Deep.nblk_alloc]; omega)]
              exact Go.Deep.blk_alloc_new w2 _
            have d0 : w6.cell? ⟨C, 0, none⟩ = some (.int .i64 0) := by rw [blk_cell yc]; rfl
            rw [← hC]
            clear hC yc H2 y1
            go_big_quiet (fail)
            go_wp2
            go_meet
            exact ⟨_, W ++ [kk], H6.out.1.after ((Wrote.refl _ _).drewN _), HO.out.1, HO.out.2⟩
          | grant hd2 kk ht eW hn =>
            subst hd2 ht eW
            have HD := Lib.hid hd.symm
            clear hd
            obtain ⟨sa, cp, hu8⟩ := HX.out.1.form
            obtain ⟨m, hm⟩ : ∃ m, m = (kk :: W').length := ⟨_, rfl⟩
            rw [← hm] at hu8
            subst hu8
            have m0 : (0 : Int) < m := by rw [hm, List.length_cons]; omega
            have m1' : ((m : Int) == 0) = false := beq_false_of_ne (by omega)
            have m2 : ¬ ((m : Int) ≤ 0) := by omega
            have m8 : m ≤ 8 := by rw [hm]; exact HX.out.2.2.1.len
            have HM := Lib.hid (And.intro hm hn)
            clear hm hn
            go_wp2_with (go_at_call 13; (with_reducible refine (ls_step HX.out.1.ls (kk : Int) (kk : Int) nv (by have := HX.out.2.2.2.1; omega)).mono ?_); intro e w2 hq; unfold LsPost at hq; obtain ⟨rfl, hL2, hW2⟩ := hq; rw [HD.out]; dsimp only [Dd.val]; have b2 := (hW2.block B (blk_lt HX.out.2.1) (fun e => by have := HX.out.2.2.2.2.1; unfold Low at e; omega)).trans HX.out.2.1; have y1 : (w2.alloc (.cells #[.int .i64 1, .bool false, .bool false, .bool false] 42)).cell? ⟨B, 1, none⟩ = some (.int .i64 (kk : Int)) := ((Wrote.refl Nil w2).alloc _).old (by rw [blk_cell b2]; rfl); have H2 := Lib.hid (And.intro (HX.out.1.call hL2 hW2) b2); clear hL2 hW2 b2)
            obtain ⟨Y, hY⟩ : ∃ Y, Y = w2.alloc (.cells #[.int .i64 1, .bool false, .bool false, .bool false] 42) := ⟨_, rfl⟩
            obtain ⟨C, hC⟩ : ∃ C, C = w2.heap.size := ⟨_, rfl⟩
            have yc : Y.heap[C]? = some (.cells #[.int .i64 1, .bool false, .bool false, .bool false] 42 (0, 0)) := by rw [hY, hC]; exact Go.Deep.blk_alloc_new w2 _
            have d0 : Y.cell? ⟨C, 0, none⟩ = some (.int .i64 1) := by rw [blk_cell yc]; rfl
            have hQY : RdQ w0 Y L (f.step L kk kk nv) (kk :: W') (.slice sa m cp) := by rw [hY]; exact H2.out.1.after ((Wrote.refl _ _).alloc _)
            obtain ⟨g, rfl, hcq⟩ := hQY.cell HM.out.1 (by simp)
            have r0 : Y.cell? ⟨g, 0, none⟩ = some (.int .i64 kk) := hcq 0 kk rfl
            have H3 := Lib.hid hQY
            rw [← hY] at y1
            rw [← hY, ← hC]
            clear hY hC yc H2 hQY hcq
            go_big_quiet (fail)
            generalize hZ : Y.drewN nq = Z
            have g0 : Z.cell? ⟨C, 0, none⟩ = some (.int .i64 1) := by rw [← hZ]; exact d0
            have g1 : Z.cell? ⟨B, 1, none⟩ = some (.int .i64 kk) := by rw [← hZ]; exact y1
            have H4 := Lib.hid (show RdQ w0 Z L (f.step L kk kk nv) (kk :: W') (.slice (some ⟨g, 0, none⟩) m cp) by rw [← hZ]; exact H3.out.after ((Wrote.refl _ _).drewN _))
            clear hZ d0 y1 r0 H3
            go_wp2
            have hst : LeftSt w0 Z L (f.step L kk kk nv) kk W' (.slice (some ⟨g, 0, none⟩) m cp) Z.heap.size B 0 (.slice none 0 0) := ⟨RdL.start H4.out, g1, World.block_lt_of_cell? Z _ g1⟩
            obtain ⟨base, hbase⟩ : ∃ base, base = Z.heap.size := ⟨_, rfl⟩
            rw [← hbase] at hst
            clear hbase g0 g1
            obtain ⟨i0, hi, hz0, hz1, hz2⟩ := info_parts info_int
            go_loopw [12, 96] (fun v12 i wy => ∃ j : Nat, j ≤ m ∧ i = .int .i64 j ∧ LeftSt w0 wy L (f.step L kk kk nv) kk W' (.slice (some ⟨g, 0, none⟩) m cp) base B j v12) (fun _ i _ => m - (intOf i).toNat)
            case atStart => exact ⟨0, Nat.zero_le _, rfl, hst⟩
            case round =>
              clear hst H4
              obtain ⟨j, hj, rfl, hL⟩ := hrel
              by_cases hjm : j < m
              · obtain ⟨g', hg', hcq⟩ := hL.1.r.cell HM.out.1 (by simp)
                obtain rfl : g = g' := by simpa using hg'
                have gb1 := hL.2.1
                have jm : (j : Int) < m := by omega
                by_cases hj0 : j = 0
                · subst hj0
                  have r0 : wr.cell? ⟨g, 0, none⟩ = some (.int .i64 kk) := hcq 0 kk rfl
                  have HL := Lib.hid hL
                  clear hL hcq hg'
                  go_wp2
                  go_roundw
                  case rel => exact ⟨1, by omega, by go_num, HL.out.skip⟩
                  case measure => simp [intOf]; omega
                · have hj1 : j - 1 < W'.length := by have := HM.out.1; rw [List.length_cons] at this; omega
                  obtain ⟨x, hx⟩ : ∃ x, W'[j - 1]? = some x := ⟨_, List.getElem?_eq_getElem hj1⟩
                  have r0 : wr.cell? ⟨g, j, none⟩ = some (.int .i64 x) := hcq j x (by
                    obtain ⟨i, rfl⟩ : ∃ i, j = i + 1 := ⟨j - 1, by omega⟩
                    simpa using hx)
                  have bx : ((x : Int) != (kk : Int)) = true := by
                    have : x ≠ kk := fun e => HM.out.2 (by rw [← e]; exact List.mem_of_getElem? hx)
                    simp only [bne_iff_ne, ne_eq]
                    omega
                  have hlv : (W'.take (j - 1)).length ≤ 8 := by rw [List.length_take]; omega
                  have HL := Lib.hid (And.intro hL (And.intro hx (show 0 < j by omega)))
                  clear hL hcq hg' hx
                  go_wp2_with (at_builtin; refine wpList_append_own _ rfl _ _ 22 rfl base 3 i0 (.int .i64 0) 1 8 Try.underlying22 hi hz0 hz1 hz2 rfl (by decide) u12 (W'.take (j - 1)).length ((W'.take (j - 1)).map natV) rfl (HL.out.1.1.after ((Wrote.refl _ _).alloc _)).l ⟨wr.heap.size, 0, none⟩ 1 1 [natV x] rfl rfl (news_at _ _ _ _ rfl) (by simp [natV, Value.oneCell']) (by unfold maxLen; omega) (by omega) (HL.out.1.1.after ((Wrote.refl _ _).alloc _)).low.2.1 ?_; intro v' w6 hown hgrow hnil; have H6 := Lib.hid (LeftSt.push (wy := _) ⟨HL.out.1.1.after ((Wrote.refl _ _).alloc _), ((Wrote.refl Nil wr).alloc _).old HL.out.1.2.1, HL.out.1.2.2⟩ HL.out.2.2 HL.out.2.1 hown hgrow); clear hown hgrow hnil)
                  go_roundw
                  case rel => exact ⟨j + 1, by omega, by go_num, H6.out⟩
                  case measure => simp [intOf]; omega
              · obtain rfl : j = m := by omega
                have HL := Lib.hid hL
                clear hL
                go_wp2
                go_meet
                refine ⟨_, W', ?_, HO.out.1, HO.out.2⟩
                have hV : W'.take (j - 1) = W' := List.take_of_length_le (by have := HM.out.1; rw [List.length_cons] at this; omega)
                have := HL.out.1.done
                rw [hV] at this
                exact this
          | both hd2 kk ht eW eW' =>
            subst hd2 ht eW
            have HD := Lib.hid hd.symm
            clear hd
            obtain ⟨i0, hi, hz0, hz1, hz2⟩ := info_parts info_int
            have hl8 := HX.out.2.2.1.len
            obtain ⟨m, hm⟩ : ∃ m, m = (kk :: W').length := ⟨_, rfl⟩
            have m0 : (0 : Int) < m := by rw [hm, List.length_cons]; omega
            have m1' : ((m : Int) == 0) = false := beq_false_of_ne (by omega)
            have m2 : ¬ ((m : Int) ≤ 0) := by omega
            have m8 : m ≤ 8 := by rw [hm, eW']; simp
            have HM := Lib.hid (And.intro hm (And.intro (show kk ∉ W' by rw [eW']; simp) eW'))
            clear hm eW'
            go_wp2_with (first
              | (go_at_call 13; (with_reducible refine (ls_step HX.out.1.ls (kk : Int) (kk : Int) nv (by have := HX.out.2.2.2.1; omega)).mono ?_); intro e w2 hq; unfold LsPost at hq; obtain ⟨rfl, hL2, hW2⟩ := hq; rw [HD.out]; dsimp only [Dd.val]; have b2 := (hW2.block B (blk_lt HX.out.2.1) (fun e => by have := HX.out.2.2.2.2.1; unfold Low at e; omega)).trans HX.out.2.1; have y1 : (w2.alloc (.cells #[.int .i64 1, .bool true, .bool false, .bool false] 42)).cell? ⟨B, 1, none⟩ = some (.int .i64 (kk : Int)) := ((Wrote.refl Nil w2).alloc _).old (by rw [blk_cell b2]; rfl); have H2 := Lib.hid (And.intro (HX.out.1.call hL2 hW2) b2); clear hL2 hW2 b2)
              | (at_builtin; refine wpList_append_own _ rfl _ _ 22 rfl L.q.k3 3 i0 (.int .i64 0) 1 8 Try.underlying22 hi hz0 hz1 hz2 rfl (by decide) u8 ([] : List Nat).length (([] : List Nat).map natV) rfl (H2.out.1.after (((Wrote.refl _ _).alloc _).alloc _)).q ⟨w2.heap.size + 1, 0, none⟩ 1 1 [natV kk] rfl rfl (news_at _ _ _ _ (by simp)) (by simp [natV, Value.oneCell']) (by unfold maxLen; try omega) (by try omega) (H2.out.1.after (((Wrote.refl _ _).alloc _).alloc _)).ls.lk.top ?_; intro v' w6 hown hgrow hnil; have hq6 := (H2.out.1.after (((Wrote.refl _ _).alloc _).alloc _)).push hown hgrow; have hq6 : RdQ w0 w6 L (f.step L kk kk nv) (kk :: W') v' := (by rw [HM.out.2.2]; exact hq6); obtain ⟨sa, cp, hv'⟩ := hq6.form; rw [← HM.out.1] at hv'; subst hv'; have H6 := Lib.hid (And.intro hq6 hgrow); clear hown hgrow hnil hq6))
            obtain ⟨C, hC⟩ : ∃ C, C = w2.heap.size := ⟨_, rfl⟩
            have hW6 := (Wrote.refl (fun j => u8.ownBlock = some j) _).grown H6.out.2 fun j hj _ => hj
            have e2 := blk_lt H2.out.2
            have yc : w6.heap[C]? = some (.cells #[.int .i64 1, .bool true, .bool false, .bool false] 42 (0, 0)) := by
              rw [hC, hW6.block w2.heap.size (by rw [Go.Deep.nblk_alloc, Go.Deep.nblk_alloc]; omega) (fun e => by have := HX.out.2.2.2.2.2 _ e; omega), Go.Deep.blk_alloc_lt _ _ _ (by rw [Go.Deep.nblk_alloc]; omega)]
              exact Go.Deep.blk_alloc_new w2 _
            have d0 : w6.cell? ⟨C, 0, none⟩ = some (.int .i64 1) := by rw [blk_cell yc]; rfl
            have yb : w6.heap[B]? = w2.heap[B]? := by
              rw [hW6.block B (by rw [Go.Deep.nblk_alloc, Go.Deep.nblk_alloc]; omega) (fun e => by have := HX.out.2.2.2.2.2 _ e; omega), Go.Deep.blk_alloc_lt _ _ _ (by rw [Go.Deep.nblk_alloc]; omega), Go.Deep.blk_alloc_lt _ _ _ e2]
            have y1 : w6.cell? ⟨B, 1, none⟩ = some (.int .i64 (kk : Int)) := by rw [blk_cell (yb.trans H2.out.2)]; rfl
            have hQY := H6.out.1
            clear hW6 e2 yb
            obtain ⟨g, rfl, hcq⟩ := hQY.cell HM.out.1 (by simp)
            have r0 : w6.cell? ⟨g, 0, none⟩ = some (.int .i64 kk) := hcq 0 kk rfl
            have H3 := Lib.hid hQY
            rw [← hC]
            clear hC yc H2 H6 hQY hcq
            go_big_quiet (fail)
            generalize hZ : w6.drewN nq = Z
            have g0 : Z.cell? ⟨C, 0, none⟩ = some (.int .i64 1) := by rw [← hZ]; exact d0
            have g1 : Z.cell? ⟨B, 1, none⟩ = some (.int .i64 kk) := by rw [← hZ]; exact y1
            have H4 := Lib.hid (show RdQ w0 Z L (f.step L kk kk nv) (kk :: W') (.slice (some ⟨g, 0, none⟩) m cp) by rw [← hZ]; exact H3.out.after ((Wrote.refl _ _).drewN _))
            clear hZ d0 y1 r0 H3
            go_wp2
            have hst : LeftSt w0 Z L (f.step L kk kk nv) kk W' (.slice (some ⟨g, 0, none⟩) m cp) Z.heap.size B 0 (.slice none 0 0) := ⟨RdL.start H4.out, g1, World.block_lt_of_cell? Z _ g1⟩
            obtain ⟨base, hbase⟩ : ∃ base, base = Z.heap.size := ⟨_, rfl⟩
            rw [← hbase] at hst
            clear hbase g0 g1
            obtain ⟨i0, hi, hz0, hz1, hz2⟩ := info_parts info_int
            go_loopw [12, 96] (fun v12 i wy => ∃ j : Nat, j ≤ m ∧ i = .int .i64 j ∧ LeftSt w0 wy L (f.step L kk kk nv) kk W' (.slice (some ⟨g, 0, none⟩) m cp) base B j v12) (fun _ i _ => m - (intOf i).toNat)
            case atStart => exact ⟨0, Nat.zero_le _, rfl, hst⟩
            case round =>
              clear hst H4
              obtain ⟨j, hj, rfl, hL⟩ := hrel
              by_cases hjm : j < m
              · obtain ⟨g', hg', hcq⟩ := hL.1.r.cell HM.out.1 (by simp)
                obtain rfl : g = g' := by simpa using hg'
                have gb1 := hL.2.1
                have jm : (j : Int) < m := by omega
                by_cases hj0 : j = 0
                · subst hj0
                  have r0 : wr.cell? ⟨g, 0, none⟩ = some (.int .i64 kk) := hcq 0 kk rfl
                  have HL := Lib.hid hL
                  clear hL hcq hg'
                  go_wp2
                  go_roundw
                  case rel => exact ⟨1, by omega, by go_num, HL.out.skip⟩
                  case measure => simp [intOf]; omega
                · have hj1 : j - 1 < W'.length := by have := HM.out.1; rw [List.length_cons] at this; omega
                  obtain ⟨x, hx⟩ : ∃ x, W'[j - 1]? = some x := ⟨_, List.getElem?_eq_getElem hj1⟩
                  have r0 : wr.cell? ⟨g, j, none⟩ = some (.int .i64 x) := hcq j x (by
                    obtain ⟨i, rfl⟩ : ∃ i, j = i + 1 := ⟨j - 1, by omega⟩
                    simpa using hx)
                  have bx : ((x : Int) != (kk : Int)) = true := by
                    have : x ≠ kk := fun e => HM.out.2.1 (by rw [← e]; exact List.mem_of_getElem? hx)
                    simp only [bne_iff_ne, ne_eq]
                    omega
                  have hlv : (W'.take (j - 1)).length ≤ 8 := by rw [List.length_take]; omega
                  have HL := Lib.hid (And.intro hL (And.intro hx (show 0 < j by omega)))
                  clear hL hcq hg' hx
                  go_wp2_with (at_builtin; refine wpList_append_own _ rfl _ _ 22 rfl base 3 i0 (.int .i64 0) 1 8 Try.underlying22 hi hz0 hz1 hz2 rfl (by decide) u12 (W'.take (j - 1)).length ((W'.take (j - 1)).map natV) rfl (HL.out.1.1.after ((Wrote.refl _ _).alloc _)).l ⟨wr.heap.size, 0, none⟩ 1 1 [natV x] rfl rfl (news_at _ _ _ _ rfl) (by simp [natV, Value.oneCell']) (by unfold maxLen; omega) (by omega) (HL.out.1.1.after ((Wrote.refl _ _).alloc _)).low.2.1 ?_; intro v' w6 hown hgrow hnil; have H6 := Lib.hid (LeftSt.push (wy := _) ⟨HL.out.1.1.after ((Wrote.refl _ _).alloc _), ((Wrote.refl Nil wr).alloc _).old HL.out.1.2.1, HL.out.1.2.2⟩ HL.out.2.2 HL.out.2.1 hown hgrow); clear hown hgrow hnil)
                  go_roundw
                  case rel => exact ⟨j + 1, by omega, by go_num, H6.out⟩
                  case measure => simp [intOf]; omega
              · obtain rfl : j = m := by omega
                have HL := Lib.hid hL
                clear hL
                go_wp2
                go_meet
                refine ⟨_, W', ?_, HO.out.1, HO.out.2⟩
                have hV : W'.take (j - 1) = W' := List.take_of_length_le (by have := HM.out.1; rw [List.length_cons] at this; omega)
                have := HL.out.1.done
                rw [hV] at this
                exact this
          | gone hd2 kk ht eW =>
            subst hd2 ht eW
            have HD := Lib.hid hd.symm
            clear hd
            obtain ⟨sa, cp, hu8⟩ := HX.out.1.form
            obtain ⟨m, hm⟩ : ∃ m, m = W.length := ⟨_, rfl⟩
            rw [← hm] at hu8
            subst hu8
            have m8 : m ≤ 8 := by rw [hm]; exact HX.out.2.2.1.len
            have HM := Lib.hid hm
            clear hm
            go_wp2_with (go_at_call 13; (with_reducible refine (ls_step HX.out.1.ls (kk : Int) (kk : Int) nv (by have := HX.out.2.2.2.1; omega)).mono ?_); intro e w2 hq; unfold LsPost at hq; obtain ⟨rfl, hL2, hW2⟩ := hq; rw [HD.out]; dsimp only [Dd.val]; have b2 := (hW2.block B (blk_lt HX.out.2.1) (fun e => by have := HX.out.2.2.2.2.1; unfold Low at e; omega)).trans HX.out.2.1; have y1 : (w2.alloc (.cells #[.int .i64 2, .bool false, .bool false, .bool false] 42)).cell? ⟨B, 1, none⟩ = some (.int .i64 (kk : Int)) := ((Wrote.refl Nil w2).alloc _).old (by rw [blk_cell b2]; rfl); have H2 := Lib.hid (And.intro (HX.out.1.call hL2 hW2) b2); clear hL2 hW2 b2)
            obtain ⟨Y, hY⟩ : ∃ Y, Y = w2.alloc (.cells #[.int .i64 2, .bool false, .bool false, .bool false] 42) := ⟨_, rfl⟩
            obtain ⟨C, hC⟩ : ∃ C, C = w2.heap.size := ⟨_, rfl⟩
            have yc : Y.heap[C]? = some (.cells #[.int .i64 2, .bool false, .bool false, .bool false] 42 (0, 0)) := by rw [hY, hC]; exact Go.Deep.blk_alloc_new w2 _
            have d0 : Y.cell? ⟨C, 0, none⟩ = some (.int .i64 2) := by rw [blk_cell yc]; rfl
            have H3 := Lib.hid (show RdQ w0 Y L (f.step L kk kk nv) W (.slice sa m cp) by rw [hY]; exact H2.out.1.after ((Wrote.refl _ _).alloc _))
            rw [← hY] at y1
            rw [← hY, ← hC]
            clear hY hC yc H2
            go_big_quiet (fail)
            generalize hZ : Y.drewN nq = Z
            have g0 : Z.cell? ⟨C, 0, none⟩ = some (.int .i64 2) := by rw [← hZ]; exact d0
            have g1 : Z.cell? ⟨B, 1, none⟩ = some (.int .i64 kk) := by rw [← hZ]; exact y1
            have H4 := Lib.hid (show RdQ w0 Z L (f.step L kk kk nv) W (.slice sa m cp) by rw [← hZ]; exact H3.out.after ((Wrote.refl _ _).drewN _))
            clear hZ d0 y1 H3
            go_wp2
            have hst : GoneSt w0 Z L (f.step L kk kk nv) kk W (.slice sa m cp) Z.heap.size B 0 (.slice none 0 0) := ⟨RdL.start H4.out, g1, World.block_lt_of_cell? Z _ g1⟩
            obtain ⟨base, hbase⟩ : ∃ base, base = Z.heap.size := ⟨_, rfl⟩
            rw [← hbase] at hst
            clear hbase g0 g1
            obtain ⟨i0, hi, hz0, hz1, hz2⟩ := info_parts info_int
            go_loopw [12, 96] (fun v12 i wy => ∃ j : Nat, j ≤ m ∧ i = .int .i64 j ∧ GoneSt w0 wy L (f.step L kk kk nv) kk W (.slice sa m cp) base B j v12) (fun _ i _ => m - (intOf i).toNat)
            case atStart => exact ⟨0, Nat.zero_le _, rfl, hst⟩
            case round =>
              clear hst H4
              obtain ⟨j, hj, rfl, hL⟩ := hrel
              by_cases hjm : j < m
              · obtain ⟨g, rfl, hcq⟩ := hL.1.r.cell HM.out (by have := HM.out; omega)
                have gb1 := hL.2.1
                have jm : (j : Int) < m := by omega
                obtain ⟨x, hx⟩ : ∃ x, W[j]? = some x := ⟨_, List.getElem?_eq_getElem (by have := HM.out; omega)⟩
                have r0 : wr.cell? ⟨g, j, none⟩ = some (.int .i64 x) := hcq j x hx
                by_cases hxk : x = kk
                · subst hxk
                  have HL := Lib.hid (hL.skip hx)
                  clear hL hcq hx
                  go_wp2
                  go_roundw
                  case rel => exact ⟨j + 1, by omega, by go_num, HL.out⟩
                  case measure => simp [intOf]; omega
                · have bx : ((x : Int) != (kk : Int)) = true := by
                    simp only [bne_iff_ne, ne_eq]
                    omega
                  have hlv := filter_len8 (j := j) (kk := kk) (show W.length ≤ 8 by have := HM.out; omega)
                  obtain ⟨V, hV⟩ : ∃ V, V = (W.take j).filter fun t => decide (t ≠ kk) := ⟨_, rfl⟩
                  have HL := Lib.hid (And.intro hL (And.intro hx (And.intro hxk hV)))
                  rw [← hV] at hlv
                  clear hL hcq hx hxk hV
                  go_wp2_with (at_builtin; refine wpList_append_own _ rfl _ _ 22 rfl base 3 i0 (.int .i64 0) 1 8 Try.underlying22 hi hz0 hz1 hz2 rfl (by decide) u12 V.length (V.map natV) rfl (by rw [HL.out.2.2.2]; exact (HL.out.1.1.after ((Wrote.refl _ _).alloc _)).l) ⟨wr.heap.size, 0, none⟩ 1 1 [natV x] rfl rfl (news_at _ _ _ _ rfl) (by simp [natV, Value.oneCell']) (by unfold maxLen; omega) (by omega) (HL.out.1.1.after ((Wrote.refl _ _).alloc _)).low.2.1 ?_; intro v' w6 hown hgrow hnil; rw [HL.out.2.2.2] at hown; have H6 := Lib.hid (GoneSt.push (wy := _) ⟨HL.out.1.1.after ((Wrote.refl _ _).alloc _), ((Wrote.refl Nil wr).alloc _).old HL.out.1.2.1, HL.out.1.2.2⟩ HL.out.2.1 HL.out.2.2.1 hown hgrow); clear hown hgrow hnil)
                  go_roundw
                  case rel => exact ⟨j + 1, by omega, by go_num, H6.out⟩
                  case measure => simp [intOf]; omega
              · obtain rfl : j = m := by omega
                have HL := Lib.hid hL
                clear hL
                go_wp2
                go_meet
                refine ⟨_, _, ?_, HO.out.1, HO.out.2⟩
                have hV : W.take j = W := List.take_of_length_le (by have := HM.out; omega)
                have := HL.out.1.done
                rw [hV] at this
                exact this
        · have k4 : (K == 4) = false := beq_false_of_ne hK4
          clear hK1 hK2 hK3 hK4
          go_wp2
          go_meet
          exact ⟨f, W, HX.out.1, HX.out.2.2.1, Nat.le_succ_of_le HX.out.2.2.2.1⟩
      case rest =>
        clear HX x1 x2 hc0
        unfold OrdMid at hcut
        obtain ⟨f', W', hQ, hO, hD⟩ := hcut
        have m1 := via_len L.lb ⟨L.p, 0, none⟩ wc hQ.ls.cell0
        have m2 := via_state L.lb ⟨L.p, 0, none⟩ wc hQ.ls.cell0
        have cL := ls_len hQ.ls
        have cS := fun t => ls_state hQ.ls t
        have hn8 := hO.n8
        obtain ⟨nn, hnn⟩ : ∃ nn, nn = f'.s.n := ⟨_, rfl⟩
        rw [← hnn] at cL hn8
        have HQ := Lib.hid (And.intro hQ (And.intro hO (And.intro hD hnn)))
        clear hQ hO hD hnn
        go_wp2_with (go_at_call 22; (with_reducible refine cL.mono ?_); rintro e w3 ⟨rfl, rfl⟩)
        go_loop [15, 112] (fun v15 i => ∃ (j : Nat) (c : Int), j ≤ nn ∧ i = .int .i64 j ∧ v15 = .int .i64 c ∧ HoldQ f' j c) (fun _ i => nn - (intOf i).toNat)
        case atStart => exact ⟨0, 0, Nat.zero_le _, rfl, rfl, .inl ⟨rfl, fun t ht => by omega⟩⟩
        case round =>
          obtain ⟨j, c, hj, rfl, rfl, hH⟩ := hrel
          by_cases hjn : j < nn
          · have jn : (j : Int) < nn := by omega
            have eS : f'.s.stI (j : Int) = f'.s.st j := by unfold SS.stI; rw [if_pos (by have := HQ.out.2.2.2; omega), Int.toNat_natCast]
            have cJ := cS j
            rw [eS] at cJ
            by_cases hs : f'.s.st j = 2
            · obtain ⟨rfl, hH2⟩ := HoldQ.yes HQ.out.2.1 (by have := HQ.out.2.2.2; omega) hH hs
              rw [hs] at cJ
              have HH := Lib.hid hH2
              clear hH hH2 hs eS cS
              go_wp2_with (go_at_call 14; (with_reducible refine cJ.mono ?_); rintro e w3 ⟨rfl, rfl⟩)
              go_round
              case rel => exact ⟨j + 1, 1, by omega, by go_num, rfl, HH.out⟩
              case measure => simp [intOf]; omega
            · have bs : (f'.s.st j == 2) = false := beq_false_of_ne hs
              have HH := Lib.hid (hH.no hs)
              generalize f'.s.st j = x at cJ bs
              clear hH hs eS cS
              go_wp2_with (go_at_call 14; (with_reducible refine cJ.mono ?_); rintro e w3 ⟨rfl, rfl⟩)
              go_round
              case rel => exact ⟨j + 1, c, by omega, by go_num, rfl, HH.out⟩
              case measure => simp [intOf]; omega
          · have hc : c ≤ 1 := by rcases hH with ⟨e, _⟩ | ⟨e, _⟩ <;> omega
            have hc2 : ¬ (1 : Int) < c := by omega
            clear hH
            go_wp2
            go_roundw
            case rel => exact ⟨k + 1, by omega, by go_num, nv, f', W', rfl, HN.out, HQ.out.1, HQ.out.2.1, HQ.out.2.2.1⟩
            case measure => simp [intOf]; omega
    · clear hO hD
      have HQ := Lib.hid hQ
      clear hQ
      go_wp2
      go_ret
      exact ⟨rfl, HQ.out.ls.wr⟩
end Go.Proofs.Ytdhpmcafekpfhaa
