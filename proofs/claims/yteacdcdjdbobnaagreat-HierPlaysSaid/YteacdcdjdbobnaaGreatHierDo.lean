/- The contracts of a hierarchical lock's small calls: what each tells, and what it leaves. -/
import Derived.Test.YteacdcdjdbobnaaGreatHier
import Derived.WalkLawsBesides
import Derived.Outline
import Derived.Deep.QuietTactic
import Derived.Deep.RegionHeld3
import Derived.BigQuiet
import Derived.BigFrame
import Derived.Handy
import Derived.OpenShut
import Derived.Lib.Walk
import Derived.WalkKit
import Derived.Lib.Hide
import Derived.StillTailTactics
namespace Go.Proofs.YteacdcdjdbobnaaGreat
open Go.RowKit Go.BigFrame
set_option linter.unusedVariables false
set_option maxRecDepth 100000

theorem fl_use {w : World} {L : Lp} {pv : Value} {s : SS} {σ : Nat → Int} {A : Nat → Ab} (h : FlRaw w L pv s σ A) (a : Addr) :
    Calls Tryz.prog 20 #[.pointer (some ⟨L.lb, 0, none⟩), .pointer (some a)] w fun e w' => e = .returned (.tuple #[]) ∧ w' = w.setCell ⟨L.lb, 1, none⟩ (.pointer (some a)) := by
  have c1 := h.cell1
  have f1 := h.frozen 1
  clear h
  go_enter Tryz.func20, Tryz.ntmps20
  go_wp2
  go_end0
  exact ⟨rfl, rfl⟩

/-! ### addresses -/
theorem fl_local {w : World} {L : Lp} {f : FL} {σ : Nat → Int} (h : LkM w L f σ) (c : Int) (hc : 0 ≤ c ∧ c ≤ 7) :
    Calls Tryz.prog 51 #[.pointer (some ⟨L.lb, 0, none⟩), .int .i64 c] w fun e w' => e = .returned (.int .i64 (L.cA c)) ∧ w = w' := by
  have c2 := h.raw.cell2
  obtain ⟨a0, a1, a2⟩ := h.raw.adr
  have w1 : IntKind.i64.wrap (L.a1 + 1) = L.a1 + 1 := by rw [IntKind.wrap_i64]; omega
  have w2 : IntKind.i64.wrap (L.a1 + 1 + c) = L.a1 + 1 + c := by rw [IntKind.wrap_i64]; omega
  have e : L.cA c = L.a1 + 1 + c := by unfold Lp.cA; omega
  rw [e]
  clear h e
  go_enter Tryz.func51, Tryz.ntmps51
  go_wp2
  go_ret
  exact ⟨rfl, rfl⟩
theorem fl_word {w : World} {L : Lp} {f : FL} {σ : Nat → Int} (h : LkM w L f σ) (x : Int) (hx : 0 ≤ x ∧ x < 4294967296) :
    Calls Tryz.prog 47 #[.pointer (some ⟨L.lb, 0, none⟩), .int .u32 x] w fun e w' => e = .returned (.int .i64 (L.nA x)) ∧ w = w' := by
  have c2 := h.raw.cell2
  obtain ⟨a0, a1, a2⟩ := h.raw.adr
  have w0 : IntKind.i64.wrap x = x := by rw [IntKind.wrap_i64]; omega
  have w1 : IntKind.i64.wrap (L.a1 + 8) = L.a1 + 8 := by rw [IntKind.wrap_i64]; omega
  have w2 : IntKind.i64.wrap (L.a1 + 8 + x) = L.a1 + 8 + x := by rw [IntKind.wrap_i64]; omega
  have e : L.nA x = L.a1 + 8 + x := by unfold Lp.nA; omega
  rw [e]
  clear h e
  go_enter Tryz.func47, Tryz.ntmps47
  go_wp2
  go_ret
  exact ⟨rfl, rfl⟩

/-! ### packed words -/
theorem pk_busy (c : Int) (hc : 0 ≤ c ∧ c ≤ 7) (w : World) : Calls Tryz.prog 48 #[.int .i64 c, .bool true, .bool false] w fun e w' => e = .returned (.int .u32 (wd c 1 0)) ∧ w = w' := by
  have := pack_any c true false w
  rw [show wordI c true false = wd c 1 0 from by unfold wordI wd; rw [held_in c (by omega) (by omega)]; unfold oneI; simp] at this
  exact this
theorem pk_splice (v : Int) (h0 : 0 ≤ v) (h1 : v < 4294967296) (w : World) : Calls Tryz.prog 74 #[.int .u32 v] w fun e w' => e = .returned (.int .u32 (wd (wCl v) (wWt v) 1)) ∧ w = w' := by
  have := splice_any v h0 h1 w
  rw [show spliceI v = wd (wCl v) (wWt v) 1 from by unfold spliceI wd wCl wWt; omega] at this
  exact this
theorem pk_free (v : Int) (h0 : 0 ≤ v) (h1 : v < 4294967296) (w : World) : Calls Tryz.prog 58 #[.int .u32 v] w fun e w' => e = .returned (.int .u32 (wd (wCl v) 0 (wSp v))) ∧ w = w' := by
  have := free_any v h0 h1 w
  rw [show freeI v = wd (wCl v) 0 (wSp v) from by unfold freeI wd wCl wSp; omega] at this
  exact this
theorem wd_rng {c x y : Int} (hc : 0 ≤ c ∧ c ≤ 1073741823) (hx : x = 0 ∨ x = 1) (hy : y = 0 ∨ y = 1) : 0 ≤ wd c x y ∧ wd c x y < 4294967296 := by unfold wd; omega
theorem wd_s {v : Int} (h : 0 ≤ v ∧ v < 4294967296) : 0 ≤ wd (wCl v) (wWt v) 1 ∧ wd (wCl v) (wWt v) 1 < 4294967296 := by unfold wd wCl wWt; omega
theorem wd_f {v : Int} (h : 0 ≤ v ∧ v < 4294967296) : 0 ≤ wd (wCl v) 0 (wSp v) ∧ wd (wCl v) 0 (wSp v) < 4294967296 := by unfold wd wCl wSp; omega

/-! ### what a place has behind a step -/
section
variable {a : Ab} {p : Pc}
theorem PlI.next {q : Int} (h : PlI 1 a p) (hq : 0 ≤ q ∧ q ≤ 7) (h2 : 2 ≤ q → 2 ≤ a.pc) (h4 : 4 ≤ q → 4 ≤ a.pc) (h6 : q ≠ 6) : PlI 1 ⟨a.cl, q, a.nd, a.ahd, a.of, a.wv⟩ { p with st := q } :=
  ⟨h.cl, h.nd, ⟨rfl, hq⟩, h.ahr, h.ofr, h.wvr, fun _ x => h.ah1 rfl (h2 x), fun x => by omega, fun _ x => h.la1 rfl (h4 x), fun _ x => absurd x h6, fun x => by omega, fun x => absurd rfl x, fun x => by omega, h.pa, h.pl, h.pw⟩
theorem PlI.ahead {q v : Int} (h : PlI 1 a p) (hv : 0 ≤ v ∧ v < 4294967296) (hq : 0 ≤ q ∧ q ≤ 7) (h4 : 4 ≤ q → 4 ≤ a.pc) (h6 : q ≠ 6) : PlI 1 ⟨a.cl, q, a.nd, v, a.of, a.wv⟩ { p with ah := v, st := q } :=
  ⟨h.cl, h.nd, ⟨rfl, hq⟩, hv, h.ofr, h.wvr, fun _ _ => rfl, fun x => by omega, fun _ x => h.la1 rfl (h4 x), fun _ x => absurd x h6, fun x => by omega, fun x => absurd rfl x, fun x => by omega, hv, h.pl, h.pw⟩
theorem PlI.last {v : Int} (h : PlI 1 a p) (hv : 0 ≤ v ∧ v < 4294967296) (h3 : a.pc = 3) : PlI 1 ⟨a.cl, 4, a.nd, a.ahd, v, a.wv⟩ { p with la := v, st := 4 } :=
  ⟨h.cl, h.nd, ⟨rfl, (by show (0 : Int) ≤ 4 ∧ (4 : Int) ≤ 7; decide)⟩, h.ahr, hv, h.wvr, fun _ _ => h.ah1 rfl (by omega), fun x => by omega, fun _ _ => rfl, fun _ x => absurd x (show ¬ (4 : Int) = 6 by decide), fun x => by omega, fun x => absurd rfl x, fun x => by omega, h.pa, hv, h.pw⟩
theorem PlI.read {v : Int} (h : PlI 1 a p) (hv : 0 ≤ v ∧ v < 4294967296) (h5 : a.pc = 5) : PlI 1 ⟨a.cl, 6, a.nd, a.ahd, a.of, v⟩ { p with wa := v, st := 6 } :=
  ⟨h.cl, h.nd, ⟨rfl, (by show (0 : Int) ≤ 6 ∧ (6 : Int) ≤ 7; decide)⟩, h.ahr, h.ofr, hv, fun _ _ => h.ah1 rfl (by omega), fun x => by omega, fun _ _ => h.la1 rfl (by omega), fun _ _ => rfl, fun x => by omega, fun x => absurd rfl x, fun x => by omega, h.pa, h.pl, hv⟩
theorem PlI.view {v : Int} (h : PlI 3 a p) (hv : 0 ≤ v ∧ v < 4294967296) : PlI 3 ⟨a.cl, 1, a.nd, a.ahd, a.of, v⟩ { p with wa := v, st := 1 } :=
  ⟨h.cl, h.nd, ⟨rfl, (by show (0 : Int) ≤ 1 ∧ (1 : Int) ≤ 7; decide)⟩, h.ahr, h.ofr, hv, fun x => by omega, fun x => h.ah2 x, fun x => by omega, fun x => by omega, fun _ _ => rfl, fun _ x => absurd rfl x, fun _ => (by show (1 : Int) ≤ 1; decide), h.pa, h.pl, hv⟩
theorem PlI.again (h : PlI 3 a p) : PlI 3 ⟨a.cl, 0, a.nd, a.ahd, a.of, a.wv⟩ { p with st := 0 } :=
  ⟨h.cl, h.nd, ⟨rfl, (by show (0 : Int) ≤ 0 ∧ (0 : Int) ≤ 7; decide)⟩, h.ahr, h.ofr, h.wvr, fun x => by omega, fun x => h.ah2 x, fun x => by omega, fun x => by omega, fun _ x => absurd x (show ¬ (0 : Int) = 1 by decide), fun _ x => absurd rfl x, fun _ => (by show (0 : Int) ≤ 1; decide), h.pa, h.pl, h.pw⟩
theorem PlI.has (h : PlI 1 a p) : PlI 2 ⟨a.cl, 0, a.nd, a.ahd, a.of, a.wv⟩ ⟨a.cl, a.nd, a.ahd, 0, 0, 0⟩ :=
  ⟨⟨rfl, h.cl.2⟩, ⟨rfl, h.nd.2⟩, ⟨rfl, (by show (0 : Int) ≤ 0 ∧ (0 : Int) ≤ 7; decide)⟩, h.ahr, h.ofr, h.wvr, fun x => by omega, fun x => rfl, fun x => by omega, fun x => by omega, fun x => by omega, fun _ _ => rfl, fun x => by omega, h.ahr, (by show (0 : Int) ≤ 0 ∧ (0 : Int) < 4294967296; decide), (by show (0 : Int) ≤ 0 ∧ (0 : Int) < 4294967296; decide)⟩
theorem PlI.gone (h : PlI 3 a p) : PlI 0 ⟨a.cl, 0, a.ahd, a.ahd, a.of, a.wv⟩ ⟨a.cl, a.ahd, 0, 0, 0, 0⟩ :=
  ⟨⟨rfl, h.cl.2⟩, ⟨rfl, h.ahr⟩, ⟨rfl, (by show (0 : Int) ≤ 0 ∧ (0 : Int) ≤ 7; decide)⟩, h.ahr, h.ofr, h.wvr, fun x => by omega, fun x => by omega, fun x => by omega, fun x => by omega, fun x => by omega, fun _ _ => rfl, fun x => by omega, (by show (0 : Int) ≤ 0 ∧ (0 : Int) < 4294967296; decide), (by show (0 : Int) ≤ 0 ∧ (0 : Int) < 4294967296; decide), (by show (0 : Int) ≤ 0 ∧ (0 : Int) < 4294967296; decide)⟩
end
/-- what a context does behind an event -/
theorem finS_facts : finS 1 0 = 1 ∧ finS 1 1 = 2 ∧ finS 3 0 = 3 ∧ finS 3 3 = 0 := by decide

/-! ### what behind a swap -/
/-- behind enter -/
def FiPost (w : World) (L : Lp) (f : FL) (σ : Nat → Int) (e : Ending) (w' : World) : Prop := e = .returned (.tuple #[]) ∧ LkM w' L f σ ∧ Wrote (LF L) w w'
set_option maxHeartbeats 1000000 in
theorem fl_ent0 {w : World} {L : Lp} {f : FL} {σ : Nat → Int} (h : LkM w L f σ) (k : Nat) (hk : k < f.s.n) (hs : σ k = 1) :
    Calls Tryz.prog 49 #[.pointer (some ⟨L.tb, k * 6, none⟩), .int .u32 0] w (FiPost w L (f.put k ⟨f.cl k, 3, f.nd k, 0, f.of k, f.wv k⟩) (upd σ k 1)) := by
  obtain ⟨p, hp, t0, t1, t2, t3, t4, t5⟩ := h.place6 hk
  have z2 := h.raw.tkz (k * 6 + 2)
  have z3 := h.raw.tkz (k * 6 + 3)
  have hT := h.turns (h.raw.setB k 1 ⟨f.cl k, 3, f.nd k, 0, f.of k, f.wv k⟩ 0 2 3 (fun p hp => by rw [hs] at hp; exact hp.ahead (q := 3) (v := 0) (by decide) (by decide) (fun x => by omega) (by decide)))
  have HE := Lib.hid hT
  clear h hT hp hs
  go_enter Tryz.func49, Tryz.ntmps49
  go_wp2
  go_end0
  exact ⟨rfl, HE.out.1, lf_t HE.out.2⟩
set_option maxHeartbeats 1000000 in
theorem fl_ent1 {w : World} {L : Lp} {f : FL} {σ : Nat → Int} (h : LkM w L f σ) (k : Nat) (hk : k < f.s.n) (hs : σ k = 1) (v : Int) (hv : 0 ≤ v ∧ v < 4294967296) (hz : v ≠ 0) :
    Calls Tryz.prog 49 #[.pointer (some ⟨L.tb, k * 6, none⟩), .int .u32 v] w (FiPost w L (f.put k ⟨f.cl k, 2, f.nd k, v, f.of k, f.wv k⟩) (upd σ k 1)) := by
  obtain ⟨p, hp, t0, t1, t2, t3, t4, t5⟩ := h.place6 hk
  have z2 := h.raw.tkz (k * 6 + 2)
  have z3 := h.raw.tkz (k * 6 + 3)
  have hT := h.turns (h.raw.setA k 1 ⟨f.cl k, 2, f.nd k, v, f.of k, f.wv k⟩ v 2 (fun p hp => by rw [hs] at hp; exact hp.ahead (q := 2) hv (by decide) (fun x => by omega) (by decide)))
  have HE := Lib.hid hT
  have b1 : (v == 0) = false := beq_false_of_ne hz
  clear h hT hp hs hz
  go_enter Tryz.func49, Tryz.ntmps49
  go_wp2
  go_end0
  exact ⟨rfl, HE.out.1, lf_t HE.out.2⟩
theorem fl_enter {w : World} {L : Lp} {f : FL} {σ : Nat → Int} (h : LkM w L f σ) (k : Nat) (hk : k < f.s.n) (hs : σ k = 1) (v : Int) (hv : 0 ≤ v ∧ v < 4294967296) :
    Calls Tryz.prog 49 #[.pointer (some ⟨L.tb, k * 6, none⟩), .int .u32 v] w (FiPost w L (f.put k ⟨f.cl k, if v = 0 then 3 else 2, f.nd k, v, f.of k, f.wv k⟩) (upd σ k 1)) := by
  by_cases hz : v = 0
  · subst hz; exact fl_ent0 h k hk hs
  · rw [if_neg hz]; exact fl_ent1 h k hk hs v hv hz

/-! ### the end of a call for the lock -/
theorem did_cells {X : World} {C : Nat} {d : Dd} (h : X.heap[C]? = some (.cells (didC d) 54 (0, 0))) : X.cell? ⟨C, 0, none⟩ = some (.int .i64 d.ev) ∧ X.cell? ⟨C, 1, none⟩ = some (.bool d.enq) ∧ X.cell? ⟨C, 2, none⟩ = some (.bool d.arr) ∧ X.cell? ⟨C, 3, none⟩ = some (.bool d.lead) := by
  rw [blk_cell h, blk_cell h, blk_cell h, blk_cell h]; exact ⟨rfl, rfl, rfl, rfl⟩
set_option maxHeartbeats 1000000 in
theorem fl_has {w : World} {L : Lp} {f : FL} {σ : Nat → Int} (h : LkM w L f σ) (k : Nat) (hk : k < f.s.n) (hs : σ k = 1) (hpc : 2 ≤ f.pc k) (d : Dd) :
    Calls Tryz.prog 55 #[.pointer (some ⟨L.tb, k * 6, none⟩), d.val] w (LmPost w L (f.put k ⟨f.cl k, 0, f.nd k, f.ahd k, f.of k, f.wv k⟩) (upd σ k 2) d.val) := by
  have e1 : (w.alloc (.cells #[.int .i64 d.ev, .bool d.enq, .bool d.arr, .bool d.lead] 54)).heap.size = w.heap.size + 1 := Go.Deep.nblk_alloc _ _
  have hF0 := Fr.start (h.after ((Wrote.refl _ w).alloc (.cells #[.int .i64 d.ev, .bool d.enq, .bool d.arr, .bool d.lead] 54)))
  have hD : ((w.alloc (.cells #[.int .i64 d.ev, .bool d.enq, .bool d.arr, .bool d.lead] 54)).alloc (.cells #[.int .i64 0, .bool false, .bool false, .bool false] 54)).heap[w.heap.size]? = some (.cells (didC d) 54 (0, 0)) := by
    rw [Go.Deep.blk_alloc_lt _ _ _ (by rw [e1]; omega), Go.Deep.blk_alloc_new]; rfl
  rw [e1] at hF0
  obtain ⟨Z, hZ⟩ : ∃ Z, Z = (w.alloc (.cells #[.int .i64 d.ev, .bool d.enq, .bool d.arr, .bool d.lead] 54)).alloc (.cells #[.int .i64 0, .bool false, .bool false, .bool false] 54) := ⟨_, rfl⟩
  rw [← hZ] at hF0 hD
  have hF : Fr w (w.heap.size + 1) Z L f σ := ⟨hF0.lk, (lf_nil (by rw [hZ]; exact ((Wrote.refl _ w).alloc _).alloc _)), hF0.res, Nat.le_succ _⟩
  obtain ⟨p, hp, t0, t1, t2, t3, t4, t5⟩ := hF.drew.lk.place6 hk
  rw [hs] at hp
  rw [hp.ah1 rfl hpc] at t2
  replace t2 : Z.drew.cell? ⟨L.tb, k * 6 + 2, none⟩ = some (.int .u32 (f.ahd k)) := t2
  have z0 := hF.drew.lk.raw.tkz (k * 6)
  have z1 := hF.drew.lk.raw.tkz (k * 6 + 1)
  have z2 := hF.drew.lk.raw.tkz (k * 6 + 2)
  have z3 := hF.drew.lk.raw.tkz (k * 6 + 3)
  have z4 := hF.drew.lk.raw.tkz (k * 6 + 4)
  have z5 := hF.drew.lk.raw.tkz (k * 6 + 5)
  have hT := hF.drew.lk.turns (hF.drew.lk.raw.set6 k 2 ⟨f.cl k, 0, f.nd k, f.ahd k, f.of k, f.wv k⟩ (f.cl k) (f.nd k) (f.ahd k) 0 0 0 (fun q hq => by rw [hs] at hq; exact hq.has))
  obtain ⟨V, hV⟩ : ∃ V, V = ((((((Z.drew.setCell ⟨L.tb, k * 6, none⟩ (.int .i64 (f.cl k))).setCell ⟨L.tb, k * 6 + 1, none⟩ (.int .u32 (f.nd k))).setCell ⟨L.tb, k * 6 + 2, none⟩ (.int .u32 (f.ahd k))).setCell ⟨L.tb, k * 6 + 3, none⟩ (.int .i64 0)).setCell ⟨L.tb, k * 6 + 4, none⟩ (.int .u32 0)).setCell ⟨L.tb, k * 6 + 5, none⟩ (.int .u32 0)) := ⟨_, rfl⟩
  rw [← hV] at hT
  have hA := Fr.call h hF.drew hT.1 (lf_t hT.2)
  obtain ⟨v0, v1, v2, v3⟩ := hA.cell
  obtain ⟨x0, x1, x2, x3⟩ := hA.frz
  have hD2 := (hT.2.block _ (blk_lt (show Z.drew.heap[w.heap.size]? = _ from hD)) (fun e => by have := h.raw.ltt; unfold One at e; omega)).trans (show Z.drew.heap[w.heap.size]? = _ from hD)
  obtain ⟨p0, p1, p2, p3⟩ := did_cells hD2
  have HE := Lib.hid (And.intro h hA)
  clear h hF0 hF hT hA hp hs hD hD2 e1
  unfold Dd.val
  go_enter Tryz.func55, Tryz.ntmps55
  go_wp2
  rw [← hZ]
  clear hZ
  refine wp_region_tail 15 (by kernel_rfl) (by kernel_rfl) ?_
  simp only [List.take_succ_cons, List.take_zero, List.drop_succ_cons, List.drop_zero]
  repeat still_step
  refine wpStill_nil ?_
  generalize Z.drew = Y at *
  go_step
  go_step
  rw [← hV]
  clear hV t0 t1 t2 t3 t4 t5 z0 z1 z2 z3 z4 z5
  go_wp2
  refine bodyPost_ret (v := Dd.val d) (results_cell_row rfl _ _ (w.heap.size + 1) 54 _ (0, 0) _ rfl (set4 HE.out.2.res rfl _ _ _ _) Tryz.underlying54 rfl i_did) rfl (HE.out.2.told HE.out.1 d)
end Go.Proofs.YteacdcdjdbobnaaGreat
