/- A step of the reference's CLH lock: what each tells, and what it leaves. -/
import Derived.Test.YtmoiehaabknleaaClhRef
import Derived.Test.YtmoiehaabknleaaClhOrd
import Derived.Test.YtmoiehaabknleaaClhDo
import Derived.WalkLawsBesides
import Derived.Outline
import Derived.Deep.QuietTactic
import Derived.Deep.RegionHeld3
import Derived.Deep.RegionWith
import Derived.Deep.Cut
import Derived.Deep.CutRange
import Derived.Deep.CutBlock
import Derived.BigQuiet
import Derived.BigFrame
import Derived.Handy
import Derived.OpenShut
import Derived.Lib.Walk
import Derived.WalkKit
import Derived.Lib.Hide
namespace Go.Proofs.Ytmoiehaabknleaa
open Go.RowKit Go.BigFrame
set_option linter.unusedVariables false
set_option maxRecDepth 100000

def MsPost (w : World) (M : Mp) (bk : Nat) (dv : Value) (s : SS) (p nd ah : Nat → Int) (ps : PSta) (d : Dd) (e : Ending) (w' : World) : Prop :=
  e = .returned d.rval ∧ MlRaw w' M s p nd ah ∧ RefSt w' M.base M.pr ps ∧ Wrote (MG M bk dv) w w'
/-- what bounds a step's world -/
structure MsIn (w : World) (M : Mp) (bk : Nat) (so : Option Addr) (cap : Nat) (dv : Value) (s : SS) (p nd ah : Nat → Int) (ps : PSta) : Prop where
  raw : MlRaw w M s p nd ah
  ref : RefAt w M.base M.pr bk so cap dv ps
  n1 : 1 ≤ s.n
  n2 : s.n ≤ 64
  hD : ps.D.length < 1000000
  hws : ps.ws.length ≤ 4096
  hac : ps.ac.length ≤ 64
  hb : M.base ≤ w.heap.size
  ha : 0 ≤ M.a ∧ M.a ≤ 4096
theorem foot_lt {w : World} {base r bk : Nat} {so : Option Addr} {cap : Nat} {dv : Value} {ps : PSta} (h : RefAt w base r bk so cap dv ps) {k : Nat} (hk : Foot r bk dv k) : base ≤ k ∧ k < w.heap.size := by
  rcases hk with rfl | rfl | hk
  · exact ⟨h.low.1, blk_lt h.obj⟩
  · exact ⟨h.low.2.1, h.counts.lt⟩
  · exact ⟨(h.touched.lt k hk).1, (h.touched.lt k hk).2⟩
theorem MsIn.start {w : World} {M : Mp} {bk : Nat} {so : Option Addr} {cap : Nat} {dv : Value} {s : SS} {p nd ah : Nat → Int} {ps : PSta} (h : MsIn w M bk so cap dv s p nd ah ps) :
    Fm w ((w.alloc (.cells #[.int .i64 0, .int .i64 0, .int .i64 0, .int .i64 0] 124)).alloc (.cells #[.int .i64 0, .int .i64 0, .int .i64 0, .int .i64 0] 124)) M bk dv s p nd ah ps w.heap.size (w.heap.size + 1) Dd.no ∧
    RefAt ((w.alloc (.cells #[.int .i64 0, .int .i64 0, .int .i64 0, .int .i64 0] 124)).alloc (.cells #[.int .i64 0, .int .i64 0, .int .i64 0, .int .i64 0] 124)) M.base M.pr bk so cap dv ps := by
  have e1 : (w.alloc (.cells #[.int .i64 0, .int .i64 0, .int .i64 0, .int .i64 0] 124)).heap.size = w.heap.size + 1 := Go.Deep.nblk_alloc _ _
  have k : Wrote Nil w ((w.alloc (.cells #[.int .i64 0, .int .i64 0, .int .i64 0, .int .i64 0] 124)).alloc (.cells #[.int .i64 0, .int .i64 0, .int .i64 0, .int .i64 0] 124)) := ((Wrote.refl _ w).alloc _).alloc _
  have hr := h.ref.after k fun _ _ => id
  refine ⟨⟨h.raw.after k, ⟨bk, so, cap, dv, hr⟩, ?_, ?_, k.mono fun _ _ e => e.elim, ⟨Nat.le_refl _, Nat.le_succ _, by omega⟩, fun j hj => ?_, fun j hj => (foot_lt h.ref hj).1, h.hb⟩, hr⟩
  · rw [Go.Deep.blk_alloc_lt _ _ _ (by rw [e1]; omega), Go.Deep.blk_alloc_new]; rfl
  · rw [← e1, Go.Deep.blk_alloc_new]; rfl
  · rcases hj with hj | hj
    · exact h.raw.lt hj
    · exact (foot_lt h.ref hj).2
theorem Fm.dcell {w X : World} {M : Mp} {bk : Nat} {dv : Value} {s : SS} {p nd ah : Nat → Int} {ps : PSta} {R C : Nat} {d : Dd} (h : Fm w X M bk dv s p nd ah ps R C d) :
    X.cell? ⟨C, 0, none⟩ = some (.int .i64 d.ev) ∧ X.cell? ⟨C, 1, none⟩ = some (.int .i64 (b2i d.enq)) ∧ X.cell? ⟨C, 2, none⟩ = some (.int .i64 (b2i d.arr)) ∧ X.cell? ⟨C, 3, none⟩ = some (.int .i64 (b2i d.lead)) := by
  rw [blk_cell h.did, blk_cell h.did, blk_cell h.did, blk_cell h.did]; exact ⟨rfl, rfl, rfl, rfl⟩
theorem Fm.rcell {w X : World} {M : Mp} {bk : Nat} {dv : Value} {s : SS} {p nd ah : Nat → Int} {ps : PSta} {R C : Nat} {d : Dd} (h : Fm w X M bk dv s p nd ah ps R C d) :
    X.cell? ⟨R, 0, none⟩ = some (.int .i64 0) ∧ X.cell? ⟨R, 1, none⟩ = some (.int .i64 0) ∧ X.cell? ⟨R, 2, none⟩ = some (.int .i64 0) ∧ X.cell? ⟨R, 3, none⟩ = some (.int .i64 0) := by
  rw [blk_cell h.res, blk_cell h.res, blk_cell h.res, blk_cell h.res]; exact ⟨rfl, rfl, rfl, rfl⟩
theorem Fm.rfrz {w X : World} {M : Mp} {bk : Nat} {dv : Value} {s : SS} {p nd ah : Nat → Int} {ps : PSta} {R C : Nat} {d : Dd} (h : Fm w X M bk dv s p nd ah ps R C d) :
    X.frozen? ⟨R, 0, none⟩ = false ∧ X.frozen? ⟨R, 1, none⟩ = false ∧ X.frozen? ⟨R, 2, none⟩ = false ∧ X.frozen? ⟨R, 3, none⟩ = false := ⟨blk_frozen h.res 0, blk_frozen h.res 1, blk_frozen h.res 2, blk_frozen h.res 3⟩
/-- the end: the result is laid -/
theorem Fm.told {w X : World} {M : Mp} {bk : Nat} {dv : Value} {s : SS} {p nd ah : Nat → Int} {ps : PSta} {R C : Nat} {d : Dd} (h : Fm w X M bk dv s p nd ah ps R C d) :
    MsPost w M bk dv s p nd ah ps d (.returned d.rval) ((((X.setCell ⟨R, 0, none⟩ (.int .i64 d.ev)).setCell ⟨R, 1, none⟩ (.int .i64 (b2i d.enq))).setCell ⟨R, 2, none⟩ (.int .i64 (b2i d.arr))).setCell ⟨R, 3, none⟩ (.int .i64 (b2i d.lead))) := by
  have k := wrote4 X R (.int .i64 d.ev) (.int .i64 (b2i d.enq)) (.int .i64 (b2i d.arr)) (.int .i64 (b2i d.lead))
  have hn := h.new
  have hC : ∀ b, MG M bk dv b → ¬ One R b := fun b hb e => by have := h.old b hb; cases e; omega
  have hbw := h.bw
  have hlr := h.raw.low.1
  exact ⟨rfl, h.raw.wrote k (fun e => by cases e; omega) fun j hj => hC j (.inl hj), ref_off h.ref k h.res, h.wr.trans k fun b hb e => by cases e; omega⟩
theorem i_rid : (Try.prog.info? 124).map (·.size) = some 4 := by kernel_rfl

theorem end_none {s : SS} {k : Nat} {ev : Int} (hk : k < s.n) (h : behindI (s.st k) ev = none) : s.fin k ev = s ∧ endI s k ev = 0 := by
  refine ⟨fin_none h, ?_⟩
  have e : endO s k ev = none := by unfold endO; rw [if_pos ⟨by omega, by omega⟩, Int.toNat_natCast, h]
  unfold endI endB
  rw [e]
  rfl
theorem end_some {s : SS} {k : Nat} {ev y : Int} (hk : k < s.n) (h : behindI (s.st k) ev = some y) : s.fin k ev = s.set k y 0 ∧ endI s k ev = 1 := by
  refine ⟨fin_some hk h, ?_⟩
  have e : endO s k ev = some y := by unfold endO; rw [if_pos ⟨by omega, by omega⟩, Int.toNat_natCast, h]
  unfold endI endB
  rw [e]
  rfl
theorem SrAt.at_g {w : World} {r : Nat} {hv dv : Value} {n m g cap : Nat} {xs ys : List Int} {timed probed : Bool} (h : SrAt w r hv dv n m xs ys timed probed) (e : hv = .slice (some ⟨g, 0, none⟩) n cap) (hn : 0 < n) {k : Nat} {x : Int} (hx : xs[k]? = some x) : w.cell? ⟨g, k, none⟩ = some (.int .i64 x) := by
  obtain ⟨g', cap', e', hg⟩ := SrAt.stV h hn
  rw [e] at e'
  obtain ⟨rfl, _⟩ : g = g' ∧ cap = cap' := by simpa using e'
  exact (hg k x hx).1
theorem setCell_alloc4 (w : World) (a : Int) : (w.alloc (.cells #[.int .i64 0, .int .i64 0, .int .i64 0, .int .i64 0] 124)).alloc (.cells #[.int .i64 a, .int .i64 0, .int .i64 0, .int .i64 0] 124) = ((w.alloc (.cells #[.int .i64 0, .int .i64 0, .int .i64 0, .int .i64 0] 124)).alloc (.cells #[.int .i64 0, .int .i64 0, .int .i64 0, .int .i64 0] 124)).setCell ⟨w.heap.size + 1, 0, none⟩ (.int .i64 a) := by
  have e1 : (w.alloc (.cells #[.int .i64 0, .int .i64 0, .int .i64 0, .int .i64 0] 124)).heap.size = w.heap.size + 1 := Go.Deep.nblk_alloc _ _
  rw [World.setCell_alloc_at _ _ _ _ _ e1.symm]
  rfl

/-! ### a step -/
structure RM where
  p : Nat → Int
  nd : Nat → Int
  ah : Nat → Int
  ps : PSta
  d : Dd
/-- behind its access -/
def rmid (M : Mp) (s : SS) (p nd ah : Nat → Int) (ps : PSta) (k : Nat) (u : Int) : RM :=
  if s.st k = 1 ∧ p k = 0 then ⟨upd p k 1, nd, ah, doS ps u 2 (M.a + 1 + nd k) 0 1, Dd.no⟩
  else if s.st k = 1 ∧ p k = 1 then ⟨upd p k 2, nd, upd ah k (tellS ps u 3 M.a), doS ps u 3 M.a 0 (nd k), ⟨0, true, false, false⟩⟩
  else if s.st k = 1 ∧ p k = 2 then ⟨p, nd, ah, doS ps u 1 (M.a + 1 + ah k) 0 0, if tellS ps u 1 (M.a + 1 + ah k) = 0 then ⟨1, false, false, false⟩ else Dd.no⟩
  else if s.st k = 3 ∧ p k = 2 then ⟨upd p k 0, upd nd k (ah k), ah, doS ps u 2 (M.a + 1 + nd k) 0 0, ⟨3, false, false, false⟩⟩
  else if s.st k = 4 ∧ p k = 2 then ⟨p, nd, ah, doS ps u 1 M.a 0 0, if tellS ps u 1 M.a = nd k then ⟨4, false, false, false⟩ else ⟨5, false, false, false⟩⟩
  else ⟨p, nd, ah, ps, Dd.no⟩
set_option maxHeartbeats 40000000 in
theorem ml_step {w : World} {M : Mp} {bk : Nat} {so : Option Addr} {cap : Nat} {dv : Value} {s : SS} {p nd ah : Nat → Int} {ps : PSta} (h : MsIn w M bk so cap dv s p nd ah ps) (k : Nat) (hk : k < s.n) (u x : Int)
    (hp : p k = 0 ∨ p k = 1 ∨ p k = 2) (hy4 : 0 ≤ s.st k ∧ s.st k ≤ 4) (hnd : 0 ≤ nd k ∧ nd k < 4294967296) (hah : p k = 2 → 0 ≤ ah k ∧ ah k < 4294967296) (hT : ∀ K a, 0 ≤ tellS ps u K a ∧ tellS ps u K a < 4294967296) :
    Calls Try.prog 102 #[.pointer (some ⟨M.r, 0, none⟩), .pointer (some ⟨M.pr, 0, none⟩), .int .i64 (k : Int), .int .i64 u, .int .i64 x] w (MsPost w M bk dv (s.fin k (rmid M s p nd ah ps k u).d.ev) (rmid M s p nd ah ps k u).p (rmid M s p nd ah ps k u).nd (rmid M s p nd ah ps k u).ah (rmid M s p nd ah ps k u).ps (rmid M s p nd ah ps k u).d) := by
  obtain ⟨hF, hR⟩ := h.start
  have n1 := h.n1
  have n2 := h.n2
  have a0 := h.ha.1
  have a1 := h.ha.2
  have b2 := (h.raw.after ((Wrote.refl Nil w).alloc (.cells #[.int .i64 0, .int .i64 0, .int .i64 0, .int .i64 0] 124))).cell2
  have i0 : (0 : Int) ≤ (k : Int) := by omega
  have i1 : (k : Int) < s.n := by omega
  have i2 : ¬ (k : Int) < 0 := by omega
  have i3 : ¬ (s.n : Int) ≤ (k : Int) := by omega
  have iN : decide (s.n ≤ k) = false := decide_eq_false (by omega)
  obtain ⟨y, hy⟩ : ∃ y, y = s.st k := ⟨_, rfl⟩
  obtain ⟨pk, hpk⟩ : ∃ pk, pk = p k := ⟨_, rfl⟩
  obtain ⟨r, hr⟩ : ∃ r, r = rmid M s p nd ah ps k u := ⟨_, rfl⟩
  rw [← hr]
  unfold rmid at hr
  rw [← hy] at hr hy4
  rw [← hpk] at hr hp hah
  have hw1 : IntKind.i64.wrap (10 * y) = 10 * y := by rw [IntKind.wrap_i64]; omega
  have hw2 : IntKind.i64.wrap (10 * y + pk) = 10 * y + pk := by rw [IntKind.wrap_i64]; omega
  obtain ⟨Z, hZ⟩ : ∃ Z, Z = (w.alloc (.cells #[.int .i64 0, .int .i64 0, .int .i64 0, .int .i64 0] 124)).alloc (.cells #[.int .i64 0, .int .i64 0, .int .i64 0, .int .i64 0] 124) := ⟨_, rfl⟩
  have hbz : M.base ≤ Z.drew.heap.size := by rw [hZ]; exact Nat.le_trans hF.bw (((Wrote.refl Nil w).alloc _).alloc _).drew.size
  rw [← hZ] at hF hR
  obtain ⟨g, cg, hgv, hg⟩ := SrAt.stV hF.raw.seat (by omega)
  have c0 := hF.raw.cell0
  have c2 := hF.raw.cell2
  have cs := SrAt.cell0 hF.raw.seat
  rw [hgv] at cs
  have ct := (hg k _ (stL_at s hk)).1
  have cp := hF.raw.pcC hk
  rw [← hy] at ct
  rw [← hpk] at cp
  have HE := Lib.hid (And.intro h (And.intro hF (And.intro hk (And.intro hR (And.intro hbz hgv)))))
  have HZ := Lib.hid hZ
  have HY := Lib.hid (And.intro hy hpk)
  have HT5 := Lib.hid hT
  have HR := Lib.hid hr
  clear h hF hR hZ hy hpk hr hgv hg hbz hT
  go_enter Try.func102, Try.ntmps102
  go_wp2
  rw [← HZ.out]
  go_big_quiet (fail)
  generalize hYY : Z.drewN _ = Y
  have hFY : Fm w Y M bk dv s p nd ah ps w.heap.size (w.heap.size + 1) Dd.no := by rw [← hYY]; exact HE.out.2.1.drewN _
  have hRY : RefAt Y M.base M.pr bk so cap dv ps := by rw [← hYY]; exact HE.out.2.2.2.1.after ((Wrote.refl Nil Z).drewN _) fun _ _ => id
  have HF := Lib.hid (And.intro hFY hRY)
  clear hFY hRY hYY c0 c2 cs ct cp b2
  go_upto_block 0 with fail
  go_cut [] from 44 to 176 (fun wx => Fm w wx M bk dv s r.p r.nd r.ah r.ps w.heap.size (w.heap.size + 1) r.d)
  case first =>
    have c1 := HF.out.1.raw.cell1
    have c2 := HF.out.1.raw.cell2
    have c3 := HF.out.1.raw.cell3
    have c4 := HF.out.1.raw.cell4
    have cn := HF.out.1.raw.ndC HE.out.2.2.1
    have ca := HF.out.1.raw.ahC HE.out.2.2.1
    have bsz : M.base ≤ Y.drew.heap.size := Nat.le_trans HF.out.1.bw HF.out.1.wr.drew.size
    have hwa : IntKind.i64.wrap (M.a + 1) = M.a + 1 := by rw [IntKind.wrap_i64]; omega
    have hwn : IntKind.i64.wrap (M.a + 1 + nd k) = M.a + 1 + nd k := by rw [IntKind.wrap_i64]; omega
    have hwu : IntKind.u32.wrap (nd k) = nd k := by show nd k % 4294967296 = nd k; omega
    have hRD := HF.out.2.after ((Wrote.refl Nil Y).drew) fun _ _ => id
    have HRD := Lib.hid (And.intro hRD bsz)
    have hr := HR.out
    clear hRD bsz
    by_cases q10 : y = 1 ∧ pk = 0
    · rw [if_pos q10] at hr
      obtain ⟨rfl, rfl⟩ := q10
      have cA := ra_store HRD.out.1 u (M.a + 1 + nd k) 1 (by omega) (by omega) HE.out.1.hD HE.out.1.hws HE.out.1.hac HRD.out.2
      have HQ := Lib.hid hr
      clear hr c4 ca
      go_wp2
      go_region_held3 (fun w' => w'.cell? ⟨M.r, 1, none⟩ = some (.int .i64 M.a) ∧ w'.cell? ⟨M.r, 3, none⟩ = some (.slice (some ⟨M.nd, 0, none⟩) s.n M.nc) ∧ w'.cell? ⟨M.nd, k, none⟩ = some (.int .i64 (nd k))) (first | exact ⟨c1, c3, cn⟩ | exact ⟨d1, d3, dn⟩) (first | (go_at_call 103; (with_reducible refine cA.mono ?_); intro e w2 hq; unfold RaPost at hq; obtain ⟨rfl, hRS, hW⟩ := hq; have hA := HF.out.1.drew.port hRS hW; have d1 := hA.raw.cell1; have d2 := hA.raw.cell2; have d3 := hA.raw.cell3; have d4 := hA.raw.cell4; have dn := hA.raw.ndC HE.out.2.2.1; have da := hA.raw.ahC HE.out.2.2.1; have dp := hA.raw.pcC HE.out.2.2.1; have zp := hA.raw.pcZ k; have zn := hA.raw.ndZ k; have za := hA.raw.ahZ k; have k0 := hA.dcell.1; have k1 := hA.dcell.2.1; have kz0 := blk_frozen hA.did 0; have kz1 := blk_frozen hA.did 1; have HC := Lib.hid hA; clear hA hRS hW))
      go_wp2
      go_meet
      rw [HQ.out]
      exact HC.out.setP k 1
    rw [if_neg q10] at hr
    by_cases q11 : y = 1 ∧ pk = 1
    · rw [if_pos q11] at hr
      obtain ⟨rfl, rfl⟩ := q11
      have hv0 := HT5.out 3 M.a
      obtain ⟨v, hv⟩ : ∃ v, v = tellS ps u 3 M.a := ⟨_, rfl⟩
      have cA := ra_swap HRD.out.1 u M.a (nd k) hnd.1 hnd.2 HE.out.1.hD HE.out.1.hws HE.out.1.hac HRD.out.2
      rw [← hv] at cA hv0 hr
      have hwv : IntKind.i64.wrap v = v := by rw [IntKind.wrap_i64]; omega
      have HQ := Lib.hid hr
      clear hr ca hv
      go_wp2
      go_region_held3 (fun w' => w'.cell? ⟨M.r, 1, none⟩ = some (.int .i64 M.a) ∧ w'.cell? ⟨M.r, 3, none⟩ = some (.slice (some ⟨M.nd, 0, none⟩) s.n M.nc) ∧ w'.cell? ⟨M.r, 4, none⟩ = some (.slice (some ⟨M.ah, 0, none⟩) s.n s.n) ∧ w'.cell? ⟨M.nd, k, none⟩ = some (.int .i64 (nd k))) (first | exact ⟨c1, c3, c4, cn⟩ | exact ⟨d1, d3, d4, dn⟩ | exact ⟨q1, q3, q4, qn⟩) (first | (go_at_call 104; (with_reducible refine cA.mono ?_); intro e w2 hq; unfold RaPost at hq; obtain ⟨rfl, hRS, hW⟩ := hq; have hA := HF.out.1.drew.port hRS hW; have d1 := hA.raw.cell1; have d2 := hA.raw.cell2; have d3 := hA.raw.cell3; have d4 := hA.raw.cell4; have dn := hA.raw.ndC HE.out.2.2.1; have da := hA.raw.ahC HE.out.2.2.1; have dp := hA.raw.pcC HE.out.2.2.1; have zp := hA.raw.pcZ k; have zn := hA.raw.ndZ k; have za := hA.raw.ahZ k; have k0 := hA.dcell.1; have k1 := hA.dcell.2.1; have kz0 := blk_frozen hA.did 0; have kz1 := blk_frozen hA.did 1; have hB := hA.setA k v; have q1 := hB.raw.cell1; have q2 := hB.raw.cell2; have q3 := hB.raw.cell3; have q4 := hB.raw.cell4; have qn := hB.raw.ndC HE.out.2.2.1; have qp := hB.raw.pcC HE.out.2.2.1; have qz := hB.raw.pcZ k; have hC := hB.setP k 2; have m1 := hC.dcell.2.1; have mz := blk_frozen hC.did 1; have HC := Lib.hid hC; clear hB hC; clear hA hRS hW))
      go_wp2
      go_meet
      rw [HQ.out]
      exact HC.out.setD 1 (.int .i64 1) ⟨0, true, false, false⟩ rfl
    rw [if_neg q11] at hr
    by_cases q12 : y = 1 ∧ pk = 2
    · rw [if_pos q12] at hr
      obtain ⟨rfl, rfl⟩ := q12
      have hab := hah rfl
      have hwh : IntKind.i64.wrap (M.a + 1 + ah k) = M.a + 1 + ah k := by rw [IntKind.wrap_i64]; omega
      obtain ⟨v, hv⟩ : ∃ v, v = tellS ps u 1 (M.a + 1 + ah k) := ⟨_, rfl⟩
      have cA := ra_load HRD.out.1 u (M.a + 1 + ah k) HE.out.1.hD HE.out.1.hws HE.out.1.hac HRD.out.2
      rw [← hv] at cA hr
      clear hv c3 cn
      by_cases hv0 : v = 0
      · rw [if_pos hv0] at hr
        have HQ := Lib.hid hr
        subst hv0
        clear hr
        go_wp2
        go_region_held3 (fun w' => w'.cell? ⟨M.r, 1, none⟩ = some (.int .i64 M.a) ∧ w'.cell? ⟨M.r, 4, none⟩ = some (.slice (some ⟨M.ah, 0, none⟩) s.n s.n) ∧ w'.cell? ⟨M.ah, k, none⟩ = some (.int .i64 (ah k))) (first | exact ⟨c1, c4, ca⟩ | exact ⟨d1, d4, da⟩) (first | (go_at_call 105; (with_reducible refine cA.mono ?_); intro e w2 hq; unfold RaPost at hq; obtain ⟨rfl, hRS, hW⟩ := hq; have hA := HF.out.1.drew.port hRS hW; have d1 := hA.raw.cell1; have d2 := hA.raw.cell2; have d3 := hA.raw.cell3; have d4 := hA.raw.cell4; have dn := hA.raw.ndC HE.out.2.2.1; have da := hA.raw.ahC HE.out.2.2.1; have dp := hA.raw.pcC HE.out.2.2.1; have zp := hA.raw.pcZ k; have zn := hA.raw.ndZ k; have za := hA.raw.ahZ k; have k0 := hA.dcell.1; have k1 := hA.dcell.2.1; have kz0 := blk_frozen hA.did 0; have kz1 := blk_frozen hA.did 1; have HC := Lib.hid hA; clear hA hRS hW))
        go_wp2
        go_meet
        rw [HQ.out]
        exact HC.out.setD 0 (.int .i64 1) ⟨1, false, false, false⟩ rfl
      · rw [if_neg hv0] at hr
        have HQ := Lib.hid hr
        have b1 : (v == 0) = false := beq_false_of_ne hv0
        clear hr hv0
        go_wp2
        go_region_held3 (fun w' => w'.cell? ⟨M.r, 1, none⟩ = some (.int .i64 M.a) ∧ w'.cell? ⟨M.r, 4, none⟩ = some (.slice (some ⟨M.ah, 0, none⟩) s.n s.n) ∧ w'.cell? ⟨M.ah, k, none⟩ = some (.int .i64 (ah k))) (first | exact ⟨c1, c4, ca⟩ | exact ⟨d1, d4, da⟩) (first | (go_at_call 105; (with_reducible refine cA.mono ?_); intro e w2 hq; unfold RaPost at hq; obtain ⟨rfl, hRS, hW⟩ := hq; have hA := HF.out.1.drew.port hRS hW; have d1 := hA.raw.cell1; have d2 := hA.raw.cell2; have d3 := hA.raw.cell3; have d4 := hA.raw.cell4; have dn := hA.raw.ndC HE.out.2.2.1; have da := hA.raw.ahC HE.out.2.2.1; have dp := hA.raw.pcC HE.out.2.2.1; have zp := hA.raw.pcZ k; have zn := hA.raw.ndZ k; have za := hA.raw.ahZ k; have k0 := hA.dcell.1; have k1 := hA.dcell.2.1; have kz0 := blk_frozen hA.did 0; have kz1 := blk_frozen hA.did 1; have HC := Lib.hid hA; clear hA hRS hW))
        go_wp2
        go_meet
        rw [HQ.out]
        exact HC.out
    rw [if_neg q12] at hr
    by_cases q32 : y = 3 ∧ pk = 2
    · rw [if_pos q32] at hr
      obtain ⟨rfl, rfl⟩ := q32
      have cA := ra_store HRD.out.1 u (M.a + 1 + nd k) 0 (by omega) (by omega) HE.out.1.hD HE.out.1.hws HE.out.1.hac HRD.out.2
      have HQ := Lib.hid hr
      clear hr c4 ca
      go_wp2
      go_region_held3 (fun w' => w'.cell? ⟨M.r, 1, none⟩ = some (.int .i64 M.a) ∧ w'.cell? ⟨M.r, 3, none⟩ = some (.slice (some ⟨M.nd, 0, none⟩) s.n M.nc) ∧ w'.cell? ⟨M.nd, k, none⟩ = some (.int .i64 (nd k))) (first | exact ⟨c1, c3, cn⟩ | exact ⟨d1, d3, dn⟩) (first | (go_at_call 103; (with_reducible refine cA.mono ?_); intro e w2 hq; unfold RaPost at hq; obtain ⟨rfl, hRS, hW⟩ := hq; have hA := HF.out.1.drew.port hRS hW; have d1 := hA.raw.cell1; have d2 := hA.raw.cell2; have d3 := hA.raw.cell3; have d4 := hA.raw.cell4; have dn := hA.raw.ndC HE.out.2.2.1; have da := hA.raw.ahC HE.out.2.2.1; have dp := hA.raw.pcC HE.out.2.2.1; have zp := hA.raw.pcZ k; have zn := hA.raw.ndZ k; have za := hA.raw.ahZ k; have k0 := hA.dcell.1; have k1 := hA.dcell.2.1; have kz0 := blk_frozen hA.did 0; have kz1 := blk_frozen hA.did 1; have hB := hA.setN k (ah k); have q3 := hB.raw.cell3; have q4 := hB.raw.cell4; have q2 := hB.raw.cell2; have qa := hB.raw.ahC HE.out.2.2.1; have qp := hB.raw.pcC HE.out.2.2.1; have qz := hB.raw.pcZ k; have hC := hB.setP k 0; have m0 := hC.dcell.1; have mz := blk_frozen hC.did 0; have HC := Lib.hid hC; clear hB hC; clear hA hRS hW))
      go_wp2
      go_region_held3 (fun w' => w'.cell? ⟨M.r, 3, none⟩ = some (.slice (some ⟨M.nd, 0, none⟩) s.n M.nc) ∧ w'.cell? ⟨M.r, 4, none⟩ = some (.slice (some ⟨M.ah, 0, none⟩) s.n s.n) ∧ w'.cell? ⟨M.ah, k, none⟩ = some (.int .i64 (ah k))) (first | exact ⟨d3, d4, da⟩ | exact ⟨q3, q4, qa⟩) (fail)
      go_wp2
      go_meet
      rw [HQ.out]
      exact (HC.out.setD 0 (.int .i64 3) ⟨3, false, false, false⟩ rfl).drew
    rw [if_neg q32] at hr
    by_cases q42 : y = 4 ∧ pk = 2
    · rw [if_pos q42] at hr
      obtain ⟨rfl, rfl⟩ := q42
      have e0 := HF.out.1.dcell.1
      have ez := blk_frozen HF.out.1.did 0
      have hF2 := HF.out.1.setD 0 (.int .i64 5) ⟨5, false, false, false⟩ rfl
      have hR2 := ref_off_at HF.out.2 (((Wrote.refl (One (w.heap.size + 1)) Y).setCell ⟨w.heap.size + 1, 0, none⟩ (.int .i64 5)) fun _ => rfl) HF.out.1.did
      obtain ⟨V, hV⟩ : ∃ V, V = Y.setCell ⟨w.heap.size + 1, 0, none⟩ (.int .i64 5) := ⟨_, rfl⟩
      rw [← hV] at hF2 hR2
      have bsv : M.base ≤ V.drew.heap.size := Nat.le_trans hF2.bw hF2.wr.drew.size
      have g1 := hF2.raw.cell1
      have g3 := hF2.raw.cell3
      have gn := hF2.raw.ndC HE.out.2.2.1
      obtain ⟨v, hv⟩ : ∃ v, v = tellS ps u 1 M.a := ⟨_, rfl⟩
      have hv0 := HT5.out 1 M.a
      have cA := ra_load (hR2.after ((Wrote.refl Nil V).drew) fun _ _ => id) u M.a HE.out.1.hD HE.out.1.hws HE.out.1.hac bsv
      rw [← hv] at cA hr hv0
      have hwv : IntKind.i64.wrap v = v := by rw [IntKind.wrap_i64]; omega
      have HV := Lib.hid (And.intro hV hF2)
      clear hv hV hF2 hR2 bsv hv0 c1 c2 c3 c4 cn ca
      by_cases hx : v = nd k
      · rw [if_pos hx] at hr
        have HQ := Lib.hid hr
        have b1 : (v == nd k) = true := by rw [hx]; simp
        clear hr hx
        go_upto_region 22 with fail
        rw [← HV.out.1]
        clear e0 ez
        go_region_held3 (fun w' => w'.cell? ⟨M.r, 1, none⟩ = some (.int .i64 M.a) ∧ w'.cell? ⟨M.r, 3, none⟩ = some (.slice (some ⟨M.nd, 0, none⟩) s.n M.nc) ∧ w'.cell? ⟨M.nd, k, none⟩ = some (.int .i64 (nd k))) (first | exact ⟨g1, g3, gn⟩ | exact ⟨d1, d3, dn⟩) (first | (go_at_call 105; (with_reducible refine cA.mono ?_); intro e w2 hq; unfold RaPost at hq; obtain ⟨rfl, hRS, hW⟩ := hq; have hA := HV.out.2.drew.port hRS hW; have d1 := hA.raw.cell1; have d2 := hA.raw.cell2; have d3 := hA.raw.cell3; have d4 := hA.raw.cell4; have dn := hA.raw.ndC HE.out.2.2.1; have da := hA.raw.ahC HE.out.2.2.1; have dp := hA.raw.pcC HE.out.2.2.1; have zp := hA.raw.pcZ k; have zn := hA.raw.ndZ k; have za := hA.raw.ahZ k; have k0 := hA.dcell.1; have k1 := hA.dcell.2.1; have kz0 := blk_frozen hA.did 0; have kz1 := blk_frozen hA.did 1; have HC := Lib.hid hA; clear hA hRS hW))
        go_wp2
        go_meet
        rw [HQ.out]
        exact HC.out.setD 0 (.int .i64 4) ⟨4, false, false, false⟩ rfl
      · rw [if_neg hx] at hr
        have HQ := Lib.hid hr
        have b1 : (v == nd k) = false := beq_false_of_ne hx
        clear hr hx
        go_upto_region 22 with fail
        rw [← HV.out.1]
        clear e0 ez
        go_region_held3 (fun w' => w'.cell? ⟨M.r, 1, none⟩ = some (.int .i64 M.a) ∧ w'.cell? ⟨M.r, 3, none⟩ = some (.slice (some ⟨M.nd, 0, none⟩) s.n M.nc) ∧ w'.cell? ⟨M.nd, k, none⟩ = some (.int .i64 (nd k))) (first | exact ⟨g1, g3, gn⟩ | exact ⟨d1, d3, dn⟩) (first | (go_at_call 105; (with_reducible refine cA.mono ?_); intro e w2 hq; unfold RaPost at hq; obtain ⟨rfl, hRS, hW⟩ := hq; have hA := HV.out.2.drew.port hRS hW; have d1 := hA.raw.cell1; have d2 := hA.raw.cell2; have d3 := hA.raw.cell3; have d4 := hA.raw.cell4; have dn := hA.raw.ndC HE.out.2.2.1; have da := hA.raw.ahC HE.out.2.2.1; have dp := hA.raw.pcC HE.out.2.2.1; have zp := hA.raw.pcZ k; have zn := hA.raw.ndZ k; have za := hA.raw.ahZ k; have k0 := hA.dcell.1; have k1 := hA.dcell.2.1; have kz0 := blk_frozen hA.did 0; have kz1 := blk_frozen hA.did 1; have HC := Lib.hid hA; clear hA hRS hW))
        go_wp2
        go_meet
        rw [HQ.out]
        exact HC.out
    rw [if_neg q42] at hr
    have HQ := Lib.hid hr
    have b10 : (10 * y + pk == 10) = false := beq_false_of_ne (by omega)
    have b11 : (10 * y + pk == 11) = false := beq_false_of_ne (by omega)
    have b12 : (10 * y + pk == 12) = false := beq_false_of_ne (by omega)
    have b32 : (10 * y + pk == 32) = false := beq_false_of_ne (by omega)
    have b42 : (10 * y + pk == 42) = false := beq_false_of_ne (by omega)
    clear hr q10 q11 q12 q32 q42 c1 c2 c3 c4 cn ca
    go_wp2
    go_meet
    rw [HQ.out]
    exact HF.out.1
  case rest =>
    have hF2 := hcut
    clear hcut
    have n0 := hF2.raw.cell0
    have e0 := hF2.dcell.1
    have cE := rs_end hF2.drew.raw.seat n1 n2 (k : Int) r.d.ev
    have HX := Lib.hid hF2
    clear hF2 HF HR HT5 HZ
    generalize endI s (k : Int) r.d.ev = ex at *
    go_wp2
    go_region_held3 (fun w' => w'.cell? ⟨M.r, 0, none⟩ = some (.pointer (some ⟨M.sr, 0, none⟩)) ∧ w'.cell? ⟨w.heap.size + 1, 0, none⟩ = some (.int .i64 r.d.ev)) (first | exact ⟨n0, e0⟩ | exact ⟨d0, p0⟩) (first | (go_at_call 106; (with_reducible refine cE.mono ?_); intro e w4 hq; have hF4 := HX.out.drew.ends (s' := s.fin (k : Int) r.d.ev) (SS.fin_n _ _ _) hq; unfold RsPost at hq; obtain ⟨rfl, _, _⟩ := hq; obtain ⟨p0, p1, p2, p3⟩ := hF4.dcell; obtain ⟨v0, v1, v2, v3⟩ := hF4.rcell; obtain ⟨x0, x1, x2, x3⟩ := hF4.rfrz; have d0 := hF4.raw.cell0; have HT := Lib.hid hF4; clear hF4))
    go_wp2
    refine bodyPost_ret (v := Dd.rval r.d) (results_cell_row rfl _ _ w.heap.size 124 _ (0, 0) _ rfl (set4 HT.out.res rfl _ _ _ _) Try.underlying124 rfl i_rid) rfl HT.out.told
end Go.Proofs.Ytmoiehaabknleaa
