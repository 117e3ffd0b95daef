/- The contract of cohort.New: a new lock of locks, its words laid behind the plan's, or why there is none. -/
import Derived.Test.YtkmikkjjnbikdaaGreatCohLayDo
import Derived.Test.YtkmikkjjnbikdaaGreatCohRight
import Derived.Test.YtkmikkjjnbikdaaGreatCohortGoes
import Derived.BigRegion
namespace Go.Proofs.YtkmikkjjnbikdaaGreat
open Go.RowKit Go.BigFrame
set_option linter.unusedVariables false
set_option maxRecDepth 100000
set_option maxHeartbeats 8000000

def callsV : Value := .func (.func 80) #[] #[]
/-- a new one: its words begin at `base` -/
def newCo (hN : Nat → Nat) (n : Nat) (G K B : Int) (base : Nat) (ps : PSta) : FL :=
  ⟨newSeat n false false, B, hN, fun t => cntN hN (hN t) t, fun _ => 0, fun _ => 0, base + 8, fun c => base + 8 + inZ G 8 + lZ K (fun c => cntN hN c n) c, newInn G 8 ps, fun c => newInn K (cntN hN c n) ps, ps⟩
/-- a lock that was made behind a world -/
def NewCoPost (w : World) (q : Pl) (t : Int) (hs vs : List Int) (n : Nat) (hN : Nat → Nat) (G K B : Int) (e : Ending) (w' : World) : Prop :=
  ∃ (L : Lp) (q' : Pl), e = .returned (.tuple #[.pointer (some ⟨L.lb, 0, none⟩), .int .i64 0]) ∧ (∀ ps, FlRaw w' L (.pointer none) (.pointer none) (fun _ => .pointer none) (newCo hN n G K B hs.length ps) (fun _ => callsV)) ∧
    w.heap.size ≤ L.lo ∧ L.a1 = hs.length ∧ q'.p = q.p ∧ PlanAt w' q' t (hs ++ gH G ++ lH K (fun c => cntN hN c n) 8) (vs ++ List.replicate (8 + inZ G 8 + lZ K (fun c => cntN hN c n) 8) 0) ∧ Wrote q.F w w' ∧ Came w q.F q'.F
theorem i_cx : (Tryz.prog.info? 144).map (fun i => (i.zero, i.size, i.bytes)) = some (some (.agg #[.int .i64 0, .int .i64 0, .nilFunc, .int .u32 0]), 4, 32) := by kernel_rfl
theorem made_cx (n : Nat) : madeCells (Value.agg #[.int .i64 0, .int .i64 0, .nilFunc, .int .u32 0]).cells (n * 4) = (cx0 n).toArray := by
  apply Array.ext'
  show (madeCells (#[.int .i64 0, .int .i64 0, .nilFunc, .int .u32 0] : Array Value) (n * 4)).toList = cx0 n
  apply List.ext_getElem?
  intro m
  by_cases hm : m < n * 4
  · have ha : m / 4 < n := by omega
    have e : m = m / 4 * 4 + m % 4 := by omega
    have h2 := cxs_at n (fun _ => 0) (fun _ => 0) (fun _ => .nilFunc) (fun _ => 0) (k := m / 4) ha (j := m % 4) (Nat.mod_lt _ (by decide))
    rw [← e] at h2
    unfold cx0
    rw [h2]
    unfold madeCells
    rw [Array.toList_map, List.getElem?_map, Array.toList_range, List.getElem?_range hm]
    have : m % 4 = 0 ∨ m % 4 = 1 ∨ m % 4 = 2 ∨ m % 4 = 3 := by omega
    rcases this with h | h | h | h <;> simp [h, cxC]
  · rw [List.getElem?_eq_none (by simp [madeCells]; omega), List.getElem?_eq_none (by unfold cx0 cxs; rw [flat_len (cxC_len _ _ _ _), List.length_range]; omega)]
/-- the struct and the contexts are made -/
theorem co_start {w ws : World} {q : Pl} {t : Int} {hs vs : List Int} (h : PlanAt w q t hs vs) (k : Wrote Nil w ws) {p sb n : Nat} {bud : Int} (hS : SeatAt ws p sb (newSeat n false false)) (hp : w.heap.size ≤ p) (hsb : w.heap.size ≤ sb) {A : Array Value} (hA : (cx0 n).toArray = A) {lb tb : Nat} (htb : tb = ws.heap.size) (hlb : lb = ws.heap.size + 1)
    {W : World} (hW : W = (ws.alloc (.cells A 144)).alloc (.cells (objC p bud 0 .nilIface (fun _ => .nilIface) tb n) 68)) :
    LaySt W q ⟨lb, p, sb, tb, n, bud⟩ W q t hs vs 0 .nilIface (fun _ => .nilIface) (cx0 n) ∧ Wrote Nil w W := by
  subst hA htb hlb hW
  have e1 : (ws.alloc (.cells (cx0 n).toArray 144)).heap.size = ws.heap.size + 1 := Go.Deep.nblk_alloc _ _
  have k2 : Wrote Nil ws ((ws.alloc (.cells (cx0 n).toArray 144)).alloc (.cells (objC p bud 0 .nilIface (fun _ => .nilIface) ws.heap.size n) 68)) := ((Wrote.refl _ ws).alloc _).alloc _
  have l2 := blk_lt hS.obj
  have l3 := blk_lt hS.ctx
  have hne := hS.ne
  refine ⟨⟨(h.after k).after k2, rfl, Came.refl _ _, Wrote.refl _ _, ?_, hS.after k2, ?_, ⟨?_, ?_, ?_, ?_⟩, ⟨by dsimp only; omega, by dsimp only; omega, by dsimp only; omega, by dsimp only; omega, by dsimp only; omega⟩⟩, k.nil k2⟩
  · rw [← e1]; exact Go.Deep.blk_alloc_new _ _
  · rw [Go.Deep.blk_alloc_lt _ _ _ (by rw [e1]; dsimp only; omega), Go.Deep.blk_alloc_new]
  all_goals
    dsimp only
    rw [Go.Deep.nblk_alloc, e1]
    omega
/-- the lock is made -/
theorem co_end {w Wl W : World} {q q' : Pl} {t : Int} {hs vs : List Int} {hN : Nat → Nat} {G K : Int} {vq : Nat → Value} {gi : Ip} {I : Nat → Ip} {lb p sb tb n : Nat} {bud : Int} (h : PlanAt w q t hs vs) (k : Wrote Nil w Wl) (hl : LdSt Wl q ⟨lb, p, sb, tb, n, bud⟩ t hs vs hN G K vq gi 8 q' I W) (hlo : w.heap.size ≤ lb ∧ w.heap.size ≤ p ∧ w.heap.size ≤ sb ∧ w.heap.size ≤ tb)
    (hH : ∀ t, t < n → hN t < 8) (hb : 0 ≤ bud ∧ bud < 4294967296) (hL : hs.length ≤ 700000) :
    NewCoPost w q t hs vs n hN G K bud (.returned (.tuple #[.pointer (some ⟨lb, 0, none⟩), .int .i64 0])) W := by
  obtain ⟨L, hLe⟩ : ∃ L : Lp, L = ⟨lb, p, sb, tb, hs.length, (hs.length : Int) + 1, noPl, [], w.heap.size, gi, I, fun c => decide (0 < cntN hN c n)⟩ := ⟨_, rfl⟩
  have hlv : ∀ c, c < 8 → lvK I (fun c => cntN hN c n) 8 c = lvL L c := fun c hc => by
    rw [hLe]
    unfold lvK lvL
    by_cases q : 0 < cntN hN c n
    · rw [if_pos ⟨hc, q⟩]; simp [q]
    · rw [if_neg fun e => q e.2]; simp [q]
  have hhas : ∀ c, L.has c = true → 0 < cntN hN c n := fun c hc => by rw [hLe] at hc; simpa using hc
  have hlt := hl.lay.lt
  have hg := hl.ga
  have hga := (hl.glo ⟨[], [], [], [], []⟩).rng.1
  refine ⟨L, q', by rw [hLe], fun ps => ⟨?_, ?_, ?_, ?_, fun c hc hh => ?_, ?_, ?_, ⟨fun c hc hh => ?_, fun c d hc hd hhc hhd hne => ?_⟩, fun t ht => ⟨hH t ht, ?_⟩, ⟨?_, ?_, fun c hc hh => ?_⟩, ⟨fun _ => by show (0 : Int) ≤ 0 ∧ (0 : Int) < 4294967296; decide, hb⟩⟩, by rw [hLe]; exact Nat.le_refl _, by rw [hLe], hl.lay.pq, hl.lay.plan, ?_, ?_⟩
  · rw [← hlv 0 (by decide), ← hlv 1 (by decide), ← hlv 2 (by decide), ← hlv 3 (by decide), ← hlv 4 (by decide), ← hlv 5 (by decide), ← hlv 6 (by decide), ← hlv 7 (by decide), hLe]
    exact hl.lay.obj
  · rw [hLe]; exact hl.lay.seat
  · rw [hLe]; exact hl.lay.ctx
  · rw [hLe]; exact hl.glo ps
  · rw [hLe]; exact (hl.loc c hc (hhas c hh)).1 ps
  · rw [hLe]; exact hl.lay.ne
  · rw [hLe]
    dsimp only at hlt ⊢
    exact ⟨⟨hlo.1, by omega⟩, ⟨hlo.2.1, by omega⟩, ⟨hlo.2.2.1, by omega⟩, hlo.2.2.2, by omega⟩
  · rw [hLe]; exact (hl.loc c hc (hhas c hh)).2.2
  · rw [hLe]
    dsimp only
    rcases Nat.lt_or_ge c d with x | x
    · exact .inl (hl.ord c d x hd (hhas c hhc) (hhas d hhd))
    · exact .inr (hl.ord d c (by omega) hc (hhas d hhd) (hhas c hhc))
  · rw [hLe]
    exact decide_eq_true ((cntN_pos hN _ n).2 ⟨t, ht, rfl⟩)
  · rw [hLe]; dsimp only; omega
  · rw [hLe]; exact hg.1
  · rw [hLe]; exact (hl.loc c hc (hhas c hh)).2.1
  · refine (k.mono fun _ _ e => e.elim).trans hl.lay.wr fun j hj e => ?_
    rcases e with e | e | e
    · exact e
    · dsimp only at e; omega
    · dsimp only at e; omega
  · exact fun j hj => by
      rcases hl.lay.came j hj with e | e
      · exact .inl e
      · have := k.size; exact .inr (by omega)
theorem lay_off {w ws W : World} {q : Pl} {b : Nat} {B : Int} (hb : ¬ q.F b) (hbl : b < w.heap.size) (s1 : w.heap.size ≤ ws.heap.size) (s2 : w.heap.size ≤ W.heap.size) (p sb n : Nat) : ¬ LyF q ⟨ws.heap.size + 1, p, sb, ws.heap.size, n, B⟩ b ∧ b < W.heap.size := by
  refine ⟨fun e => ?_, by omega⟩
  rcases e with e | e | e
  · exact hb e
  · dsimp only at e; omega
  · dsimp only at e; omega
theorem fn_new {w : World} {q : Pl} {t : Int} {hs vs : List Int} (h : PlanAt w q t hs vs) {b o n cap : Nat} {zs : List Int} {hN : Nat → Nat} {G K B : Int} (hr : RowAt .i64 w (some ⟨b, o, none⟩) n zs) (ho : homesOK zs = true) (hH : ∀ t, t < n → zs.getD t 0 = (hN t : Nat) ∧ hN t < 8) (n1 : 1 ≤ n) (n2 : n ≤ 64) (hL : hs.length ≤ 700000) (hb : ¬ q.F b) (hbl : b < w.heap.size) (hc : rightB G K B = true) :
    Calls Tryz.prog 24 #[.pointer (some ⟨q.p, 0, none⟩), .slice (some ⟨b, o, none⟩) n cap, .int .i64 G, .int .i64 K, .int .i64 B] w (NewCoPost w q t hs vs n hN G K B) := by
  obtain ⟨i0, hi, hz0, hz1, hz2⟩ := info_parts i_cx
  have hmk : ∀ w : World, (Instr.makeSlice 66 (.int .i64 (n : Int)) (.int .i64 (n : Int))).run Tryz.prog w = .ok (.slice (some ⟨w.heap.size, 0, none⟩) n n) (w.alloc (.cells (cx0 n).toArray 144)) := by
    intro w
    have h := Go.run_make (P := Tryz.prog) w 66 144 i0 _ Tryz.underlying66 hi hz0 .i64 .i64 n n (by omega) (by omega) (by rw [hz2]; omega) (by omega)
    rw [hz1] at h
    simp only [Int.toNat_natCast] at h
    rw [made_cx n] at h
    exact h
  generalize hA : (cx0 n).toArray = A at hmk
  have cS := hm_seats (cap := cap) hr ho false false n1 n2
  have cR := fl_right G K B
  rw [hc] at cR
  have hc' := hc
  unfold rightB at hc'
  simp only [Bool.and_eq_true, decide_eq_true_eq, List.mem_cons, List.not_mem_nil, or_false] at hc'
  obtain ⟨⟨⟨g1, g2⟩, g3⟩, g4⟩ := hc'
  have hwB : IntKind.u32.wrap B = B := by rw [IntKind.wrap_u32]; omega
  have HX := Lib.hid (And.intro h (And.intro hr (And.intro hA (And.intro hb (And.intro hbl (And.intro hH (And.intro (show G = 1 ∨ G = 3 ∨ G = 4 by omega) (show K = 1 ∨ K = 3 ∨ K = 4 by omega))))))))
  clear h hr ho hA hb hbl hc hH g1 g2
  go_enter Tryz.func24, Tryz.ntmps24
  go_wp2_with (first
    | (go_at_call 45; (with_reducible refine cS.mono ?_); intro e wq hq; unfold NewSeatPost at hq; obtain ⟨p, sb, rfl, hS, hp, hsb, hW⟩ := hq; have HS := Lib.hid (And.intro hS (And.intro hp (And.intro hsb hW))); clear hS hp hsb hW cS)
    | (go_at_call 46; (with_reducible refine (cR _).mono ?_); rintro e ws ⟨rfl, hW⟩; have HW := Lib.hid hW; clear hW cR)
    | (go_at_call 47; generalize hWe : (ws.alloc _).alloc _ = W; have hc := co_start (bud := B) HX.out.1 (HS.out.2.2.2.nil HW.out) (HS.out.1.after HW.out) HS.out.2.1 HS.out.2.2.1 HX.out.2.2.1 rfl rfl hWe.symm; have hlt := lay_off (B := B) HX.out.2.2.2.1 HX.out.2.2.2.2.1 (HS.out.2.2.2.nil HW.out).size hc.2.size p sb n; (with_reducible refine (fl_lay (cap := cap) hc.1 HX.out.2.2.2.2.2.2.1 HX.out.2.2.2.2.2.2.2 (HX.out.2.1.after hc.2) HX.out.2.2.2.2.2.1 n1 n2 hlt.1 hlt.2 hL).mono ?_); intro e w5 hq; unfold LayPost at hq; obtain ⟨rfl, vq, gi, q', I, hl⟩ := hq; have HZ := Lib.hid (And.intro hc.2 hl); clear hc hlt hl hWe))
  go_ret2
  obtain ⟨h, hr, hA, hb, hbl, hH, hG, hK⟩ := HX.out
  obtain ⟨hS, hp, hsb, hW⟩ := HS.out
  have sz := (hW.nil HW.out).size
  exact co_end h HZ.out.1 HZ.out.2 ⟨by omega, hp, hsb, by omega⟩ (fun t ht => (hH t ht).2) (by omega) hL
theorem fn_none {w : World} {sa : Option Addr} {n cap : Nat} {zs : List Int} (a : Addr) (G K B : Int) (hr : RowAt .i64 w sa n zs) (hL : n ≤ 1000000) (hn : homesOK zs = false ∨ n < 1 ∨ 64 < n) :
    Calls Tryz.prog 24 #[.pointer (some a), .slice sa n cap, .int .i64 G, .int .i64 K, .int .i64 B] w fun e w' => e = .returned (.tuple #[.pointer none, .int .i64 1]) ∧ w = w' := by
  have cS := hm_none (cap := cap) hr false false hL hn
  clear hr hn
  go_enter Tryz.func24, Tryz.ntmps24
  go_wp2_with (go_at_call 45; (with_reducible refine cS.mono ?_); rintro e w' ⟨rfl, hw'⟩; subst w')
  go_ret2
  exact ⟨rfl, rfl⟩
theorem fn_cfg {w : World} {sa : Option Addr} {n cap : Nat} {zs : List Int} (a : Addr) {G K B : Int} (hr : RowAt .i64 w sa n zs) (ho : homesOK zs = true) (n1 : 1 ≤ n) (n2 : n ≤ 64) (hc : rightB G K B = false) :
    Calls Tryz.prog 24 #[.pointer (some a), .slice sa n cap, .int .i64 G, .int .i64 K, .int .i64 B] w fun e w' => e = .returned (.tuple #[.pointer none, .int .i64 7]) ∧ Wrote Nil w w' := by
  have cS := hm_seats (cap := cap) hr ho false false n1 n2
  have cR := fl_right G K B
  rw [hc] at cR
  clear hr ho hc
  go_enter Tryz.func24, Tryz.ntmps24
  go_wp2_with (first
    | (go_at_call 45; (with_reducible refine cS.mono ?_); intro e wq hq; unfold NewSeatPost at hq; obtain ⟨p, sb, rfl, hS, hp, hsb, hW⟩ := hq; have HS := Lib.hid hW; clear hS hp hsb hW cS)
    | (go_at_call 46; (with_reducible refine (cR _).mono ?_); rintro e ws ⟨rfl, hW⟩; have HW := Lib.hid hW; clear hW cR))
  go_ret2
  exact ⟨rfl, HS.out.nil HW.out⟩
end Go.Proofs.YtkmikkjjnbikdaaGreat
