/- The contract of cohort.inner: a new inner lock of one of three kinds, its words laid behind the plan's. -/
import Derived.Test.YtkmikkjjnbikdaaGreatCohPlaces
import Derived.Test.YtkmikkjjnbikdaaGreatCohortAcc
namespace Go.Proofs.YtkmikkjjnbikdaaGreat
open Go.RowKit Go.BigFrame
set_option linter.unusedVariables false
set_option maxRecDepth 100000
set_option maxHeartbeats 4000000

/-- a new one of the kind K, the homes of its words, how many they are -/
def newInn (K : Int) (n : Nat) (ps : PSta) : Inn := if K = 1 then newTk n ps else if K = 3 then newCl n ps else newMc n ps
def inH (K : Int) (zs : List Int) : List Int := if K = 1 then [zs.getD 0 0, zs.getD 0 0] else if K = 3 then [zs.getD 0 0, zs.getD 0 0] ++ zs else [zs.getD 0 0] ++ Km.dbl zs
def inZ (K : Int) (n : Nat) : Nat := if K = 1 then 2 else if K = 3 then n + 2 else 2 * n + 1
theorem inH_len {K : Int} {zs : List Int} {n : Nat} (h : zs.length = n) : (inH K zs).length = inZ K n := by
  unfold inH inZ
  split
  · rfl
  split
  · simp [h]
  · rw [List.length_append, Km.dbl_len, h]; simp; omega
theorem newInn_size (K : Int) (n : Nat) (ps : PSta) : (newInn K n ps).size = inZ K n := by
  unfold newInn inZ
  split
  · rfl
  split <;> rfl
theorem newInn_s (K : Int) (n : Nat) (ps : PSta) : (newInn K n ps).s = newSeat n false true := by
  unfold newInn
  split
  · rfl
  split <;> rfl
theorem newInn_on (K : Int) (n : Nat) (ps q : PSta) : (newInn K n ps).on q = newInn K n q := by
  unfold newInn
  split
  · rfl
  split <;> rfl
theorem newInn_at {K : Int} {n o : Nat} {ps : PSta} (hn : n ≤ 8) (hl : o + inZ K n ≤ ps.ws.length) (hz : ∀ x ∈ ps.ws, x = 0) : (newInn K n ps).At o none [] := by
  unfold newInn
  unfold inZ at hl
  by_cases h1 : K = 1
  · rw [if_pos h1] at hl ⊢; exact newTk_at hn hl hz
  · rw [if_neg h1] at hl ⊢
    by_cases h3 : K = 3
    · rw [if_pos h3] at hl ⊢; exact newCl_at hn hl hz
    · rw [if_neg h3] at hl ⊢; exact newMc_at hn hl hz

/-! ### no block of a plan's -/
theorem own_int {w : World} {base : Nat} {e : TypeId} {v : Value} {n : Nat} {xs : List Value} (h : w.ownsRow base e 1 v n xs) {k : Nat} (hk : v.ownBlock = some k) : ∃ cur, w.heap[k]? = some (.cells cur e (0, 0)) := by
  obtain ⟨_, h⟩ := h
  rcases h with ⟨rfl, _⟩ | ⟨g, cap, cur, rfl, _, hg, _⟩
  · cases hk
  · have e : g = k := by simpa [Value.ownBlock] using hk
    subst e
    exact ⟨cur, hg⟩
theorem PlanAt.off {w : World} {q : Pl} {t : Int} {hs vs : List Int} (h : PlanAt w q t hs vs) {b : Nat} {cs : Array Value} {ty : TypeId} (hb : w.heap[b]? = some (.cells cs ty (0, 0))) (n1 : ty ≠ 3) (n2 : ty ≠ 62) (n3 : ty ≠ 115) : ¬ q.F b := fun e => by
  rcases e with rfl | e | e
  · rw [h.obj] at hb
    simp only [Option.some.injEq, Obj.cells.injEq] at hb
    exact n3 hb.2.1.symm
  · obtain ⟨cur, hc⟩ := own_int h.rows.homes e
    rw [hc] at hb
    simp only [Option.some.injEq, Obj.cells.injEq] at hb
    exact n1 hb.2.1.symm
  · obtain ⟨cur, hc⟩ := own_int h.rows.values e
    rw [hc] at hb
    simp only [Option.some.injEq, Obj.cells.injEq] at hb
    exact n2 hb.2.1.symm
theorem SeatAt.off {w : World} {q : Pl} {t : Int} {hs vs : List Int} (h : PlanAt w q t hs vs) {p b : Nat} {s : SS} (hS : SeatAt w p b s) : ¬ q.F p ∧ ¬ q.F b :=
  ⟨h.off hS.obj (by decide) (by decide) (by decide), h.off hS.ctx (by decide) (by decide) (by decide)⟩
theorem InAt.off2 {w : World} {q : Pl} {t : Int} {hs vs : List Int} {I : Ip} {pv : Value} {x : Inn} (hI : InAt w I pv x) (h : PlanAt w q t hs vs) : ¬ q.F I.lb ∧ ¬ q.F I.tb := by
  have a := hI.raw
  cases x with
  | tk f => exact ⟨h.off (Kf.FlRaw.obj a) (by decide) (by decide) (by decide), h.off (Kf.FlRaw.tick a) (by decide) (by decide) (by decide)⟩
  | cl f => exact ⟨h.off (Kc.FlRaw.obj a) (by decide) (by decide) (by decide), h.off (Kc.FlRaw.tick a) (by decide) (by decide) (by decide)⟩
  | mc f => exact ⟨h.off (Km.FlRaw.obj a) (by decide) (by decide) (by decide), h.off (Km.FlRaw.tick a) (by decide) (by decide) (by decide)⟩
/-- beside what turns none of its four blocks -/
theorem InAt.wrote4 {w w' : World} {I : Ip} {pv : Value} {x : Inn} {S : Nat → Prop} (h : InAt w I pv x) (k : Wrote S w w') (h1 : ¬ S I.lb) (h2 : ¬ S I.p) (h3 : ¬ S I.b) (h4 : ¬ S I.tb) : InAt w' I pv x := by
  obtain ⟨a, b, c, d, e⟩ := h
  refine ⟨?_, b, Nat.le_trans c k.size, d, e⟩
  cases x with
  | tk f => exact Kf.FlRaw.wrote a k h1 h2 h3 h4
  | cl f => exact Kc.FlRaw.wrote a k h1 h2 h3 h4
  | mc f => exact Km.FlRaw.wrote a k h1 h2 h3 h4
/-- beside a plan that grows -/
theorem InAt.plan {w w' : World} {q : Pl} {t : Int} {hs vs : List Int} {I : Ip} {pv : Value} {x : Inn} (hI : InAt w I pv x) (h : PlanAt w q t hs vs) (k : Wrote q.F w w') : InAt w' I pv x := by
  obtain ⟨a, b⟩ := hI.off2 h
  obtain ⟨c, d⟩ := SeatAt.off h hI.seat
  exact hI.wrote4 k a c d b

/-! ### inner -/
def InnerPost (w : World) (q : Pl) (t : Int) (hs vs : List Int) (K : Int) (n : Nat) (zs : List Int) (e : Ending) (w' : World) : Prop :=
  ∃ (I : Ip) (q' : Pl), e = .returned I.val ∧ (∀ ps, InAt w' I (.pointer none) (newInn K n ps)) ∧ I.a = hs.length ∧ (w.heap.size ≤ I.lo ∧ I.hi ≤ w'.heap.size) ∧ q'.p = q.p ∧ PlanAt w' q' t (hs ++ inH K zs) (vs ++ List.replicate (inZ K n) 0) ∧ Wrote q.F w w' ∧ Came w q.F q'.F
theorem fl_inner {w : World} {q : Pl} {t : Int} {hs vs : List Int} (h : PlanAt w q t hs vs) {K : Int} (hK : K = 1 ∨ K = 3 ∨ K = 4) {b o n cap : Nat} {zs : List Int} (hr : RowAt .i64 w (some ⟨b, o, none⟩) n zs) (ho : homesOK zs = true) (n1 : 1 ≤ n) (n2 : n ≤ 64) (hL : hs.length ≤ 800000) (hb : ¬ q.F b) :
    Calls Tryz.prog 67 #[.pointer (some ⟨q.p, 0, none⟩), .int .i64 K, .slice (some ⟨b, o, none⟩) n cap] w (InnerPost w q t hs vs K n zs) := by
  rcases hK with rfl | rfl | rfl
  · have c := Kf.fn_new (cap := cap) h hr ho n1 n2 (by omega) hb (v := 0) (by decide)
    have hsz := h
    clear h hr ho
    go_enter Tryz.func67, Tryz.ntmps67
    go_wp2_with (go_at_call 77; (with_reducible refine c.mono ?_); intro e w2 hq; unfold Kf.NewFlatPost at hq; obtain ⟨L, q', rfl, h1, h2, h3, h4, h5, h6, h7, h8⟩ := hq; have HQ := Lib.hid (And.intro h1 (And.intro h2 (And.intro h3 (And.intro h4 (And.intro h5 (And.intro h6 (And.intro h7 h8))))))); clear h1 h2 h3 h4 h5 h6 h7 h8)
    go_ret
    obtain ⟨h1, h2, h3, h4, h5, h6, h7, h8⟩ := HQ.out
    have l1 := blk_lt h1.obj
    have l2 := blk_lt h1.seat.obj
    have l3 := blk_lt h1.seat.ctx
    have l4 := blk_lt h1.tick
    obtain ⟨lb, p, b', tb, a1, a2, q0, hs0⟩ := L
    dsimp only at h2 h3 h4 l1 l2 l3 l4
    subst h3 h4
    refine ⟨⟨lb, p, b', tb, hs.length, 168, w.heap.size, w2.heap.size⟩, q', rfl, fun ps => ⟨Kf.FlRaw.place h1 noPl [], ⟨⟨h2.1, l1⟩, ⟨h2.2.1, l2⟩, ⟨h2.2.2.1, l3⟩, h2.2.2.2, l4⟩, Nat.le_refl _, rfl, rfl⟩, rfl, ⟨Nat.le_refl _, Nat.le_refl _⟩, h5, ?_, h7, h8⟩
    have e1 : hs ++ inH 1 zs = hs ++ [zs.getD 0 0] ++ [zs.getD 0 0] := by unfold inH; simp
    have e2 : vs ++ List.replicate (inZ 1 n) 0 = vs ++ [0] ++ [0] := by unfold inZ; simp [List.replicate]
    rw [e1, e2]
    exact h6
  · have c := Kc.fn_new (cap := cap) h hr ho n1 n2 (by omega) hb
    have hzl := hr.len
    clear h hr ho
    go_enter Tryz.func67, Tryz.ntmps67
    go_wp2_with (go_at_call 78; (with_reducible refine c.mono ?_); intro e w2 hq; unfold Kc.NewClhPost at hq; obtain ⟨L, q', rfl, h1, h2, h3, h4, h5, h6, h7, h8⟩ := hq; have HQ := Lib.hid (And.intro h1 (And.intro h2 (And.intro h3 (And.intro h4 (And.intro h5 (And.intro h6 (And.intro h7 h8))))))); clear h1 h2 h3 h4 h5 h6 h7 h8)
    go_ret
    obtain ⟨h1, h2, h3, h4, h5, h6, h7, h8⟩ := HQ.out
    have l1 := blk_lt h1.obj
    have l2 := blk_lt h1.seat.obj
    have l3 := blk_lt h1.seat.ctx
    have l4 := blk_lt h1.tick
    obtain ⟨lb, p, b', tb, a1, a2, q0, hs0⟩ := L
    dsimp only at h2 h3 h4 l1 l2 l3 l4
    subst h3 h4
    refine ⟨⟨lb, p, b', tb, hs.length, 171, w.heap.size, w2.heap.size⟩, q', rfl, fun ps => ⟨Kc.FlRaw.place h1 noPl [], ⟨⟨h2.1, l1⟩, ⟨h2.2.1, l2⟩, ⟨h2.2.2.1, l3⟩, h2.2.2.2, l4⟩, Nat.le_refl _, rfl, rfl⟩, rfl, ⟨Nat.le_refl _, Nat.le_refl _⟩, h5, ?_, h7, h8⟩
    have e1 : hs ++ inH 3 zs = hs ++ [zs.getD 0 0] ++ [zs.getD 0 0] ++ zs := by unfold inH; simp
    have e2 : vs ++ List.replicate (inZ 3 n) 0 = vs ++ [0] ++ [0] ++ List.replicate n 0 := by unfold inZ; simp [List.replicate]
    rw [e1, e2]
    exact h6
  · have c := Km.fn_new (cap := cap) h hr ho n1 n2 (by omega) hb
    clear h hr ho
    go_enter Tryz.func67, Tryz.ntmps67
    go_wp2_with (go_at_call 79; (with_reducible refine c.mono ?_); intro e w2 hq; unfold Km.NewMcsPost at hq; obtain ⟨L, q', rfl, h1, h2, h3, h4, h5, h6, h7, h8⟩ := hq; have HQ := Lib.hid (And.intro h1 (And.intro h2 (And.intro h3 (And.intro h4 (And.intro h5 (And.intro h6 (And.intro h7 h8))))))); clear h1 h2 h3 h4 h5 h6 h7 h8)
    go_ret
    obtain ⟨h1, h2, h3, h4, h5, h6, h7, h8⟩ := HQ.out
    have l1 := blk_lt h1.obj
    have l2 := blk_lt h1.seat.obj
    have l3 := blk_lt h1.seat.ctx
    have l4 := blk_lt h1.tick
    obtain ⟨lb, p, b', tb, a1, a2, q0, hs0⟩ := L
    dsimp only at h2 h3 h4 l1 l2 l3 l4
    subst h3 h4
    refine ⟨⟨lb, p, b', tb, hs.length, 174, w.heap.size, w2.heap.size⟩, q', rfl, fun ps => ⟨Km.FlRaw.place h1 noPl [], ⟨⟨h2.1, l1⟩, ⟨h2.2.1, l2⟩, ⟨h2.2.2.1, l3⟩, h2.2.2.2, l4⟩, Nat.le_refl _, rfl, rfl⟩, rfl, ⟨Nat.le_refl _, Nat.le_refl _⟩, h5, ?_, h7, h8⟩
    have e1 : hs ++ inH 4 zs = hs ++ [zs.getD 0 0] ++ Km.dbl zs := by unfold inH; simp
    have e2 : vs ++ List.replicate (inZ 4 n) 0 = vs ++ [0] ++ List.replicate (2 * n) 0 := by unfold inZ; simp [List.replicate_succ]
    rw [e1, e2]
    exact h6
end Go.Proofs.YtkmikkjjnbikdaaGreat
