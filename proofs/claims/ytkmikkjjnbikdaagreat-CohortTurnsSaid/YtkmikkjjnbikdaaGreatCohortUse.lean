/- The contract of a lock of locks' Use. -/
import Derived.Test.YtkmikkjjnbikdaaGreatCohortDo
import Derived.Deep.Cut
import Derived.Laws.EntriesVeiled
namespace Go.Proofs.YtkmikkjjnbikdaaGreat
open Go.RowKit Go.BigFrame
set_option linter.unusedVariables false
set_option maxRecDepth 100000
set_option maxHeartbeats 4000000

/-- what Use may turn: the struct, the inner locks -/
def UF (L : Lp) (k : Nat) : Prop := k = L.lb ∨ Rng L.gi.lo L.gi.hi k ∨ ∃ c, c < 8 ∧ L.has c = true ∧ Rng (L.li c).lo (L.li c).hi k
/-- amid Use: so many nodes' locks are used -/
structure UseSt (w : World) (L : Lp) (a : Addr) (pl : Nat → Value) (f : FL) (nx : Nat → Value) (m : Nat) (wr : World) : Prop where
  raw : FlRaw wr L (.pointer (some a)) (.pointer (some a)) (fun c => if c < m then .pointer (some a) else pl c) f nx
  wr : Wrote (UF L) w wr
namespace UseSt
variable {w wr w' : World} {L : Lp} {a : Addr} {pl : Nat → Value} {f : FL} {nx : Nat → Value} {m : Nat}
theorem skip (h : UseSt w L a pl f nx m wr) (hm : L.has m = false) : UseSt w L a pl f nx (m + 1) wr := by
  obtain ⟨r, k⟩ := h
  refine ⟨⟨r.obj, r.seat, r.tick, r.glo, fun c hc hh => ?_, r.ne, r.low, r.sep, r.nod, r.adr, r.rng⟩, k⟩
  have hne : c ≠ m := fun e => by subst e; rw [hm] at hh; cases hh
  have i := r.loc c hc hh
  by_cases q : c < m
  · rw [if_pos q] at i; rw [if_pos (by omega)]; exact i
  · rw [if_neg q] at i; rw [if_neg (by omega)]; exact i
theorem used (h : UseSt w L a pl f nx m wr) (hm : m < 8) (hh : L.has m = true) (hI : InAt w' (L.li m) (.pointer (some a)) (f.Lc m)) (k : Wrote (Rng (L.li m).lo (L.li m).hi) wr w') : UseSt w L a pl f nx (m + 1) w' := by
  have hr := h.raw.locl hm hh hI k fun b _ e => .inl e
  refine ⟨⟨hr.obj, hr.seat, hr.tick, hr.glo, fun c hc hcc => ?_, hr.ne, hr.low, hr.sep, hr.nod, hr.adr, hr.rng⟩, h.wr.trans k fun b _ e => .inr (.inr ⟨m, hm, hh, e⟩)⟩
  have i := hr.loc c hc hcc
  have e : upd f.Lc m (f.Lc m) c = f.Lc c := by unfold upd; split <;> simp_all
  have i : InAt w' (L.li c) (upd (fun c => if c < m then (.pointer (some a) : Value) else pl c) m (.pointer (some a)) c) (upd f.Lc m (f.Lc m) c) := i
  rw [e] at i
  by_cases q : c = m
  · subst q; rw [upd_same] at i; rw [if_pos (by omega)]; exact i
  · rw [upd_other _ _ q] at i
    by_cases q2 : c < m
    · rw [if_pos q2] at i; rw [if_pos (by omega)]; exact i
    · rw [if_neg q2] at i; rw [if_neg (by omega)]; exact i
end UseSt
theorem FlRaw.useO {w : World} {L : Lp} {pv pg : Value} {pl : Nat → Value} {f : FL} {nx : Nat → Value} (h : FlRaw w L pv pg pl f nx) (v : Value) : FlRaw (w.setCell ⟨L.lb, 1, none⟩ v) L v pg pl f nx ∧ Wrote (One L.lb) w (w.setCell ⟨L.lb, 1, none⟩ v) := by
  have hW : Wrote (One L.lb) w (w.setCell ⟨L.lb, 1, none⟩ v) := (Wrote.refl _ w).setCell _ _ fun _ => rfl
  obtain ⟨k1, k2⟩ := h.keep hW fun b e => by unfold One at e; have := h.low; omega
  refine ⟨⟨?_, h.seat.wrote hW (fun e => h.ne.2.2.2.2 e.symm) (fun e => h.ne.1 e.symm), (hW.block _ (blk_lt h.tick) (fun e => h.ne.2.1 e.symm)).trans h.tick, k1, k2, h.ne, h.low, h.sep, h.nod, h.adr, h.rng⟩, hW⟩
  rw [blk_setCell h.obj]
  rfl
theorem lvL_or (L : Lp) (c : Nat) : (L.has c = false ∧ lvL L c = .nilIface) ∨ (L.has c = true ∧ lvL L c = .iface (L.li c).ty (.pointer (some ⟨(L.li c).lb, 0, none⟩))) := by
  unfold lvL Ip.val
  cases h : L.has c
  · exact .inl ⟨rfl, by simp⟩
  · exact .inr ⟨rfl, by simp⟩
/-- one of eight -/
theorem ix8_0 (v0 v1 v2 v3 v4 v5 v6 v7 : Value) (w : World) : (Instr.index 65 (.agg #[v0, v1, v2, v3, v4, v5, v6, v7]) (.int .i64 ((0 : Nat) : Int))).run Tryz.prog w = .ok v0 w := by kernel_rfl
theorem ix8_1 (v0 v1 v2 v3 v4 v5 v6 v7 : Value) (w : World) : (Instr.index 65 (.agg #[v0, v1, v2, v3, v4, v5, v6, v7]) (.int .i64 ((1 : Nat) : Int))).run Tryz.prog w = .ok v1 w := by kernel_rfl
theorem ix8_2 (v0 v1 v2 v3 v4 v5 v6 v7 : Value) (w : World) : (Instr.index 65 (.agg #[v0, v1, v2, v3, v4, v5, v6, v7]) (.int .i64 ((2 : Nat) : Int))).run Tryz.prog w = .ok v2 w := by kernel_rfl
theorem ix8_3 (v0 v1 v2 v3 v4 v5 v6 v7 : Value) (w : World) : (Instr.index 65 (.agg #[v0, v1, v2, v3, v4, v5, v6, v7]) (.int .i64 ((3 : Nat) : Int))).run Tryz.prog w = .ok v3 w := by kernel_rfl
theorem ix8_4 (v0 v1 v2 v3 v4 v5 v6 v7 : Value) (w : World) : (Instr.index 65 (.agg #[v0, v1, v2, v3, v4, v5, v6, v7]) (.int .i64 ((4 : Nat) : Int))).run Tryz.prog w = .ok v4 w := by kernel_rfl
theorem ix8_5 (v0 v1 v2 v3 v4 v5 v6 v7 : Value) (w : World) : (Instr.index 65 (.agg #[v0, v1, v2, v3, v4, v5, v6, v7]) (.int .i64 ((5 : Nat) : Int))).run Tryz.prog w = .ok v5 w := by kernel_rfl
theorem ix8_6 (v0 v1 v2 v3 v4 v5 v6 v7 : Value) (w : World) : (Instr.index 65 (.agg #[v0, v1, v2, v3, v4, v5, v6, v7]) (.int .i64 ((6 : Nat) : Int))).run Tryz.prog w = .ok v6 w := by kernel_rfl
theorem ix8_7 (v0 v1 v2 v3 v4 v5 v6 v7 : Value) (w : World) : (Instr.index 65 (.agg #[v0, v1, v2, v3, v4, v5, v6, v7]) (.int .i64 ((7 : Nat) : Int))).run Tryz.prog w = .ok v7 w := by kernel_rfl
theorem ix8 (v0 v1 v2 v3 v4 v5 v6 v7 : Value) {m : Nat} (hm : m < 8) (w : World) : (Instr.index 65 (.agg #[v0, v1, v2, v3, v4, v5, v6, v7]) (.int .i64 (m : Nat))).run Tryz.prog w = .ok (#[v0, v1, v2, v3, v4, v5, v6, v7].getD m undef) w := by
  have : m = 0 ∨ m = 1 ∨ m = 2 ∨ m = 3 ∨ m = 4 ∨ m = 5 ∨ m = 6 ∨ m = 7 := by omega
  rcases this with rfl | rfl | rfl | rfl | rfl | rfl | rfl | rfl
  · exact ix8_0 _ _ _ _ _ _ _ _ w
  · exact ix8_1 _ _ _ _ _ _ _ _ w
  · exact ix8_2 _ _ _ _ _ _ _ _ w
  · exact ix8_3 _ _ _ _ _ _ _ _ w
  · exact ix8_4 _ _ _ _ _ _ _ _ w
  · exact ix8_5 _ _ _ _ _ _ _ _ w
  · exact ix8_6 _ _ _ _ _ _ _ _ w
  · exact ix8_7 _ _ _ _ _ _ _ _ w
theorem pick8 {g : Nat → Value} {v0 v1 v2 v3 v4 v5 v6 v7 : Value} (h : v0 = g 0 ∧ v1 = g 1 ∧ v2 = g 2 ∧ v3 = g 3 ∧ v4 = g 4 ∧ v5 = g 5 ∧ v6 = g 6 ∧ v7 = g 7) {m : Nat} (hm : m < 8) : #[v0, v1, v2, v3, v4, v5, v6, v7].getD m undef = g m := by
  obtain ⟨rfl, rfl, rfl, rfl, rfl, rfl, rfl, rfl⟩ := h
  have : m = 0 ∨ m = 1 ∨ m = 2 ∨ m = 3 ∨ m = 4 ∨ m = 5 ∨ m = 6 ∨ m = 7 := by omega
  rcases this with rfl | rfl | rfl | rfl | rfl | rfl | rfl | rfl <;> rfl
theorem fl_use {w : World} {L : Lp} {pv pg : Value} {pl : Nat → Value} {f : FL} {nx : Nat → Value} (h : FlRaw w L pv pg pl f nx) (a : Addr) :
    Calls Tryz.prog 31 #[.pointer (some ⟨L.lb, 0, none⟩), .pointer (some a)] w fun e w' => e = .returned (.tuple #[]) ∧ FlRaw w' L (.pointer (some a)) (.pointer (some a)) (fun _ => .pointer (some a)) f nx ∧ Wrote (UF L) w w' := by
  have c1 := h.cell1
  have f1 := h.frozen 1
  obtain ⟨h1, hW1⟩ := h.useO (.pointer (some a))
  have c4 := h1.cell4
  unfold Ip.val at c4
  have vU := h1.glo.via_use
  have cU := in_use h1.glo a
  have hF := f.G.use_enter
  generalize f.G.useF = F at *
  have HE := Lib.hid (And.intro h1 (hW1.mono (T := UF L) fun b _ e => .inl e))
  clear h h1 hW1
  go_enter Tryz.func31, Tryz.ntmps31
  go_wp2_with ((with_reducible refine cU.mono ?_); intro e w2 hq; unfold InPost at hq; obtain ⟨rfl, hI, hW⟩ := hq; have hG := HE.out.1.glob hI hW fun b _ e => .inl e; have hL := fun (c : Nat) (hc : c < 8) => hG.cellL hc; have l0 := hL 0 (by decide); have l1 := hL 1 (by decide); have l2 := hL 2 (by decide); have l3 := hL 3 (by decide); have l4 := hL 4 (by decide); have l5 := hL 5 (by decide); have l6 := hL 6 (by decide); have l7 := hL 7 (by decide); have HG := Lib.hid (And.intro hG (HE.out.2.trans hW fun b _ e => .inr (.inl e))); clear hG hI hW hL)
  clear cU vU hF c4 c1 f1 l0 l1 l2 l3 l4 l5 l6 l7
  have hv := fun c => lvL_or L c
  obtain ⟨v0, e0⟩ : ∃ v, v = lvL L 0 := ⟨_, rfl⟩
  obtain ⟨v1, e1⟩ : ∃ v, v = lvL L 1 := ⟨_, rfl⟩
  obtain ⟨v2, e2⟩ : ∃ v, v = lvL L 2 := ⟨_, rfl⟩
  obtain ⟨v3, e3⟩ : ∃ v, v = lvL L 3 := ⟨_, rfl⟩
  obtain ⟨v4, e4⟩ : ∃ v, v = lvL L 4 := ⟨_, rfl⟩
  obtain ⟨v5, e5⟩ : ∃ v, v = lvL L 5 := ⟨_, rfl⟩
  obtain ⟨v6, e6⟩ : ∃ v, v = lvL L 6 := ⟨_, rfl⟩
  obtain ⟨v7, e7⟩ : ∃ v, v = lvL L 7 := ⟨_, rfl⟩
  rw [← e0, ← e1, ← e2, ← e3, ← e4, ← e5, ← e6, ← e7]
  have E := Lib.hid (And.intro e0 (And.intro e1 (And.intro e2 (And.intro e3 (And.intro e4 (And.intro e5 (And.intro e6 e7)))))))
  have HV := Lib.hid hv
  clear e0 e1 e2 e3 e4 e5 e6 e7 hv
  go_loopw [5, 20] (fun _ i wr => ∃ m : Nat, m ≤ 8 ∧ i = .int .i64 m ∧ UseSt w L a pl f nx m wr) (fun _ i _ => 8 - (intOf i).toNat)
  case atStart => exact ⟨0, by decide, rfl, ⟨by simpa using HG.out.1, HG.out.2⟩⟩
  case round =>
    clear HG HE
    obtain ⟨m, hm, rfl, hl⟩ := hrel
    by_cases hlt : m < 8
    · have hI : (m : Int) < 8 := by omega
      have hx := ix8 v0 v1 v2 v3 v4 v5 v6 v7 hlt
      rw [pick8 E.out hlt] at hx
      rcases HV.out m with ⟨hh, e⟩ | ⟨hh, e⟩
      · rw [e] at hx
        have HL := Lib.hid (hl.skip hh)
        clear hl hh e
        go_wp2
        go_roundw
        case rel => exact ⟨m + 1, by omega, by go_num, HL.out⟩
        case measure => simp [intOf]; omega
      · rw [e] at hx
        have hi := hl.raw.loc m hlt hh
        have vU := hi.via_use
        have cU := in_use hi a
        have hF := (f.Lc m).use_enter
        generalize (f.Lc m).useF = F at *
        have HL := Lib.hid (And.intro hl hh)
        clear hl hh e hi
        go_wp2_with ((with_reducible refine cU.mono ?_); intro e w3 hq; unfold InPost at hq; obtain ⟨rfl, hI2, hW⟩ := hq; have HS := Lib.hid (HL.out.1.used hlt HL.out.2 hI2 hW); clear hI2 hW)
        go_roundw
        case rel => exact ⟨m + 1, by omega, by go_num, HS.out⟩
        case measure => simp [intOf]; omega
    · obtain rfl : m = 8 := by omega
      have HL := Lib.hid hl
      clear hl
      go_wp2
      go_end0
      obtain ⟨hr, hW⟩ := HL.out
      refine ⟨rfl, ⟨hr.obj, hr.seat, hr.tick, hr.glo, fun c hc hh => ?_, hr.ne, hr.low, hr.sep, hr.nod, hr.adr, hr.rng⟩, hW⟩
      have i := hr.loc c hc hh
      rw [if_pos hc] at i
      exact i
end Go.Proofs.YtkmikkjjnbikdaaGreat
