/- A step of the reference's lock with slots: what each tells, and what it leaves. -/
import Derived.Test.YtiddapikahchkaaSlotsRef
import Derived.Test.YtiddapikahchkaaSlotsOrd
import Derived.Test.YtiddapikahchkaaSlotsDo
import Derived.WalkLawsBesides
import Derived.Outline
import Derived.Deep.QuietTactic
import Derived.Deep.RegionHeld3
import Derived.Deep.RegionWith
import Derived.Deep.Cut
import Derived.Deep.CutRange
import Derived.BigQuiet
import Derived.BigFrame
import Derived.Handy
import Derived.OpenShut
import Derived.Lib.Walk
import Derived.WalkKit
import Derived.Lib.Hide
namespace Go.Proofs.Ytiddapikahchkaa
open Go.RowKit Go.BigFrame
set_option linter.unusedVariables false
set_option maxRecDepth 100000

def MsPost (w : World) (M : Mp) (bk : Nat) (dv : Value) (s : SS) (p : Nat → Int) (mi : Nat → Int) (ps : PSta) (d : Dd) (e : Ending) (w' : World) : Prop :=
  e = .returned d.rval ∧ MlRaw w' M s p mi ∧ RefSt w' M.base M.pr ps ∧ Wrote (MG M bk dv) w w'
/-- what bounds a step's world -/
structure MsIn (w : World) (M : Mp) (bk : Nat) (so : Option Addr) (cap : Nat) (dv : Value) (s : SS) (p : Nat → Int) (mi : Nat → Int) (ps : PSta) : Prop where
  raw : MlRaw w M s p mi
  ref : RefAt w M.base M.pr bk so cap dv ps
  n1 : 1 ≤ s.n
  n2 : s.n ≤ 64
  hD : ps.D.length < 1000000
  hws : ps.ws.length ≤ 4096
  hac : ps.ac.length ≤ 64
  hb : M.base ≤ w.heap.size
  ha : 0 ≤ M.a ∧ M.a ≤ 4096
  hn : 1 ≤ M.n ∧ M.n ≤ 64
theorem foot_lt {w : World} {base r bk : Nat} {so : Option Addr} {cap : Nat} {dv : Value} {ps : PSta} (h : RefAt w base r bk so cap dv ps) {k : Nat} (hk : Foot r bk dv k) : base ≤ k ∧ k < w.heap.size := by
  rcases hk with rfl | rfl | hk
  · exact ⟨h.low.1, blk_lt h.obj⟩
  · exact ⟨h.low.2.1, h.counts.lt⟩
  · exact ⟨(h.touched.lt k hk).1, (h.touched.lt k hk).2⟩
theorem MsIn.start {w : World} {M : Mp} {bk : Nat} {so : Option Addr} {cap : Nat} {dv : Value} {s : SS} {p : Nat → Int} {mi : Nat → Int} {ps : PSta} (h : MsIn w M bk so cap dv s p mi ps) :
    Fm w ((w.alloc (.cells #[.int .i64 0, .int .i64 0, .int .i64 0, .int .i64 0] 130)).alloc (.cells #[.int .i64 0, .int .i64 0, .int .i64 0, .int .i64 0] 130)) M bk dv s p mi ps w.heap.size (w.heap.size + 1) Dd.no ∧
    RefAt ((w.alloc (.cells #[.int .i64 0, .int .i64 0, .int .i64 0, .int .i64 0] 130)).alloc (.cells #[.int .i64 0, .int .i64 0, .int .i64 0, .int .i64 0] 130)) M.base M.pr bk so cap dv ps := by
  have e1 : (w.alloc (.cells #[.int .i64 0, .int .i64 0, .int .i64 0, .int .i64 0] 130)).heap.size = w.heap.size + 1 := Go.Deep.nblk_alloc _ _
  have k : Wrote Nil w ((w.alloc (.cells #[.int .i64 0, .int .i64 0, .int .i64 0, .int .i64 0] 130)).alloc (.cells #[.int .i64 0, .int .i64 0, .int .i64 0, .int .i64 0] 130)) := ((Wrote.refl _ w).alloc _).alloc _
  have hr := h.ref.after k fun _ _ => id
  refine ⟨⟨h.raw.after k, ⟨bk, so, cap, dv, hr⟩, ?_, ?_, k.mono fun _ _ e => e.elim, ⟨Nat.le_refl _, Nat.le_succ _, by omega⟩, fun j hj => ?_, fun j hj => (foot_lt h.ref hj).1, h.hb⟩, hr⟩
  · rw [Go.Deep.blk_alloc_lt _ _ _ (by rw [e1]; omega), Go.Deep.blk_alloc_new]; rfl
  · rw [← e1, Go.Deep.blk_alloc_new]; rfl
  · rcases hj with hj | hj
    · exact h.raw.lt hj
    · exact (foot_lt h.ref hj).2
theorem Fm.dcell {w X : World} {M : Mp} {bk : Nat} {dv : Value} {s : SS} {p : Nat → Int} {mi : Nat → Int} {ps : PSta} {R C : Nat} {d : Dd} (h : Fm w X M bk dv s p mi ps R C d) :
    X.cell? ⟨C, 0, none⟩ = some (.int .i64 d.ev) ∧ X.cell? ⟨C, 1, none⟩ = some (.int .i64 (b2i d.enq)) ∧ X.cell? ⟨C, 2, none⟩ = some (.int .i64 (b2i d.arr)) ∧ X.cell? ⟨C, 3, none⟩ = some (.int .i64 (b2i d.lead)) := by
  rw [blk_cell h.did, blk_cell h.did, blk_cell h.did, blk_cell h.did]; exact ⟨rfl, rfl, rfl, rfl⟩
theorem Fm.rcell {w X : World} {M : Mp} {bk : Nat} {dv : Value} {s : SS} {p : Nat → Int} {mi : Nat → Int} {ps : PSta} {R C : Nat} {d : Dd} (h : Fm w X M bk dv s p mi ps R C d) :
    X.cell? ⟨R, 0, none⟩ = some (.int .i64 0) ∧ X.cell? ⟨R, 1, none⟩ = some (.int .i64 0) ∧ X.cell? ⟨R, 2, none⟩ = some (.int .i64 0) ∧ X.cell? ⟨R, 3, none⟩ = some (.int .i64 0) := by
  rw [blk_cell h.res, blk_cell h.res, blk_cell h.res, blk_cell h.res]; exact ⟨rfl, rfl, rfl, rfl⟩
theorem Fm.rfrz {w X : World} {M : Mp} {bk : Nat} {dv : Value} {s : SS} {p : Nat → Int} {mi : Nat → Int} {ps : PSta} {R C : Nat} {d : Dd} (h : Fm w X M bk dv s p mi ps R C d) :
    X.frozen? ⟨R, 0, none⟩ = false ∧ X.frozen? ⟨R, 1, none⟩ = false ∧ X.frozen? ⟨R, 2, none⟩ = false ∧ X.frozen? ⟨R, 3, none⟩ = false := ⟨blk_frozen h.res 0, blk_frozen h.res 1, blk_frozen h.res 2, blk_frozen h.res 3⟩
/-- the end: the result is laid -/
theorem Fm.told {w X : World} {M : Mp} {bk : Nat} {dv : Value} {s : SS} {p : Nat → Int} {mi : Nat → Int} {ps : PSta} {R C : Nat} {d : Dd} (h : Fm w X M bk dv s p mi ps R C d) :
    MsPost w M bk dv s p mi ps d (.returned d.rval) ((((X.setCell ⟨R, 0, none⟩ (.int .i64 d.ev)).setCell ⟨R, 1, none⟩ (.int .i64 (b2i d.enq))).setCell ⟨R, 2, none⟩ (.int .i64 (b2i d.arr))).setCell ⟨R, 3, none⟩ (.int .i64 (b2i d.lead))) := by
  have k := wrote4 X R (.int .i64 d.ev) (.int .i64 (b2i d.enq)) (.int .i64 (b2i d.arr)) (.int .i64 (b2i d.lead))
  have hn := h.new
  have hC : ∀ b, MG M bk dv b → ¬ One R b := fun b hb e => by have := h.old b hb; cases e; omega
  have hbw := h.bw
  have hlr := h.raw.low.1
  exact ⟨rfl, h.raw.wrote k (fun e => by cases e; omega) (hC _ (.inl (.inl rfl))) (hC _ (.inl (.inr (.inl rfl)))) fun j hj => hC j (.inl (.inr (.inr hj))), ref_off h.ref k h.res, h.wr.trans k fun b hb e => by cases e; omega⟩
theorem i_rid : (Try.prog.info? 130).map (·.size) = some 4 := by kernel_rfl

theorem end_none {s : SS} {k : Nat} {ev : Int} (hk : k < s.n) (h : behindI (s.st k) ev = none) : s.fin k ev = s ∧ endI s k ev = 0 := by
  refine ⟨fin_none h, ?_⟩
  have e : endO s k ev = none := by unfold endO; rw [if_pos ⟨by omega, by omega⟩, Int.toNat_natCast, h]
  unfold endI endB
  rw [e]
  rfl
theorem end_some {s : SS} {k : Nat} {ev y : Int} (hk : k < s.n) (h : behindI (s.st k) ev = some y) : s.fin k ev = s.set k y 0 ∧ endI s k ev = 1 := by
  refine ⟨fin_some hk h, ?_⟩
  have e : endO s k ev = some y := by unfold endO; rw [if_pos ⟨by omega, by omega⟩, Int.toNat_natCast, h]
  unfold endI endB
  rw [e]
  rfl
theorem SrAt.at_g {w : World} {r : Nat} {hv dv : Value} {n m g cap : Nat} {xs ys : List Int} {timed probed : Bool} (h : SrAt w r hv dv n m xs ys timed probed) (e : hv = .slice (some ⟨g, 0, none⟩) n cap) (hn : 0 < n) {k : Nat} {x : Int} (hx : xs[k]? = some x) : w.cell? ⟨g, k, none⟩ = some (.int .i64 x) := by
  obtain ⟨g', cap', e', hg⟩ := SrAt.stV h hn
  rw [e] at e'
  obtain ⟨rfl, _⟩ : g = g' ∧ cap = cap' := by simpa using e'
  exact (hg k x hx).1
theorem setCell_alloc4 (w : World) (a : Int) : (w.alloc (.cells #[.int .i64 0, .int .i64 0, .int .i64 0, .int .i64 0] 130)).alloc (.cells #[.int .i64 a, .int .i64 0, .int .i64 0, .int .i64 0] 130) = ((w.alloc (.cells #[.int .i64 0, .int .i64 0, .int .i64 0, .int .i64 0] 130)).alloc (.cells #[.int .i64 0, .int .i64 0, .int .i64 0, .int .i64 0] 130)).setCell ⟨w.heap.size + 1, 0, none⟩ (.int .i64 a) := by
  have e1 : (w.alloc (.cells #[.int .i64 0, .int .i64 0, .int .i64 0, .int .i64 0] 130)).heap.size = w.heap.size + 1 := Go.Deep.nblk_alloc _ _
  rw [World.setCell_alloc_at _ _ _ _ _ e1.symm]
  rfl

/-! ### a step -/
structure RM where
  p : Nat → Int
  mi : Nat → Int
  ps : PSta
  d : Dd
/-- behind its access -/
def rmid (M : Mp) (s : SS) (p mi : Nat → Int) (ps : PSta) (k : Nat) (u : Int) : RM :=
  if s.st k = 3 then ⟨p, mi, doS ps u 2 (M.a + 1 + (mi k + 1) % M.n) 0 1, ⟨3, false, false, false⟩⟩
  else if s.st k = 1 then
    (if p k = 0 then ⟨upd p k 1, upd mi k (tellS ps u 5 M.a % M.n), doS ps u 5 M.a 0 1, ⟨0, true, false, false⟩⟩
     else if p k = 1 then (if tellS ps u 1 (M.a + 1 + mi k) = 0 then ⟨p, mi, doS ps u 1 (M.a + 1 + mi k) 0 0, Dd.no⟩ else ⟨upd p k 2, mi, doS ps u 1 (M.a + 1 + mi k) 0 0, Dd.no⟩)
     else ⟨p, mi, doS ps u 2 (M.a + 1 + mi k) 0 0, ⟨1, false, false, false⟩⟩)
  else ⟨p, mi, ps, Dd.no⟩
/-- and behind its end -/
def rend (s : SS) (k : Nat) (r : RM) : Nat → Int := if s.st k = 3 then upd r.p k 0 else r.p
theorem ml_fit {w w' : World} {M : Mp} {bk : Nat} {dv : Value} {s s' : SS} {p p' mi : Nat → Int} {ps : PSta} {d : Dd} {e : Ending} (h1 : s = s') (h2 : p = p') (h : MsPost w M bk dv s' p' mi ps d e w') : MsPost w M bk dv s p mi ps d e w' := by
  rw [h1, h2]; exact h
set_option maxHeartbeats 40000000 in
theorem ml_step {w : World} {M : Mp} {bk : Nat} {so : Option Addr} {cap : Nat} {dv : Value} {s : SS} {p : Nat → Int} {mi : Nat → Int} {ps : PSta} (h : MsIn w M bk so cap dv s p mi ps) (k : Nat) (hk : k < s.n) (u x : Int)
    (hp : p k = 0 ∨ p k = 1 ∨ p k = 2) (hw : (s.st k = 3 ∨ p k ≠ 0) → 0 ≤ mi k ∧ mi k < M.n) (hT : 0 ≤ tellS ps u 5 M.a ∧ tellS ps u 5 M.a < 4294967296) :
    Calls Try.prog 106 #[.pointer (some ⟨M.r, 0, none⟩), .pointer (some ⟨M.pr, 0, none⟩), .int .i64 (k : Int), .int .i64 u, .int .i64 x] w (MsPost w M bk dv (s.fin k (rmid M s p mi ps k u).d.ev) (rend s k (rmid M s p mi ps k u)) (rmid M s p mi ps k u).mi (rmid M s p mi ps k u).ps (rmid M s p mi ps k u).d) := by
  obtain ⟨hF, hR⟩ := h.start
  have n1 := h.n1
  have n2 := h.n2
  have a0 := h.ha.1
  have a1 := h.ha.2
  have N1 := h.hn.1
  have N2 := h.hn.2
  obtain ⟨g, cg, hgv, hg⟩ := SrAt.stV hF.raw.seat (by omega)
  have b3 := (h.raw.after ((Wrote.refl Nil w).alloc (.cells #[.int .i64 0, .int .i64 0, .int .i64 0, .int .i64 0] 130))).cell3
  have c0 := hF.raw.cell0
  have cs := SrAt.cell0 hF.raw.seat
  rw [hgv] at cs
  have ct := (hg k _ (stL_at s hk)).1
  have i0 : (0 : Int) ≤ (k : Int) := by omega
  have i1 : (k : Int) < s.n := by omega
  have i2 : ¬ (k : Int) < 0 := by omega
  have i3 : ¬ (s.n : Int) ≤ (k : Int) := by omega
  obtain ⟨y, hy⟩ : ∃ y, y = s.st k := ⟨_, rfl⟩
  rw [← hy] at ct
  obtain ⟨r, hr⟩ : ∃ r, r = rmid M s p mi ps k u := ⟨_, rfl⟩
  rw [← hr]
  unfold rmid at hr
  rw [← hy] at hr hw
  obtain ⟨Z, hZ⟩ : ∃ Z, Z = (w.alloc (.cells #[.int .i64 0, .int .i64 0, .int .i64 0, .int .i64 0] 130)).alloc (.cells #[.int .i64 0, .int .i64 0, .int .i64 0, .int .i64 0] 130) := ⟨_, rfl⟩
  have hbz : M.base ≤ Z.drew.heap.size := by rw [hZ]; exact Nat.le_trans hF.bw (((Wrote.refl Nil w).alloc _).alloc _).drew.size
  rw [← hZ] at hF hR
  have HE := Lib.hid (And.intro h (And.intro hF (And.intro hk (And.intro hR (And.intro hbz hgv)))))
  have HZ := Lib.hid hZ
  have HY := Lib.hid hy
  have HT5 := Lib.hid hT
  obtain ⟨o, ho⟩ : ∃ o, o = mi k := ⟨_, rfl⟩
  have HO := Lib.hid ho
  rw [← ho] at hr hw
  have HR := Lib.hid hr
  have HW := Lib.hid hw
  clear ho
  obtain ⟨ps1, hps1⟩ : ∃ ps1, ps1 = if y = 3 then doS ps u 2 (M.a + 1 + (o + 1) % M.n) 0 1 else ps := ⟨_, rfl⟩
  obtain ⟨d1, hd1⟩ : ∃ d1 : Dd, d1 = if y = 3 then ⟨3, false, false, false⟩ else Dd.no := ⟨_, rfl⟩
  have HP := Lib.hid (And.intro hps1 hd1)
  clear h hF hR hZ hy hr hw hgv hg hps1 hd1 hbz hT
  go_enter Try.func106, Try.ntmps106
  go_upto_if 35 with fail
  rw [← HZ.out]
  clear c0 cs ct b3
  go_cut [] from 23 to 58 (fun wx => Fm w wx M bk dv s p mi ps1 w.heap.size (w.heap.size + 1) d1 ∧ (y ≠ 3 → RefAt wx M.base M.pr bk so cap dv ps))
  case first =>
    by_cases h3 : y = 3
    · subst h3
      obtain ⟨m0, m1⟩ := HW.out (.inl rfl)
      have hps : ps1 = doS ps u 2 (M.a + 1 + (o + 1) % M.n) 0 1 := by rw [HP.out.1, if_pos rfl]
      have hd : d1 = ⟨3, false, false, false⟩ := by rw [HP.out.2, if_pos rfl]
      have c1 := HE.out.2.1.raw.cell1
      have c2 := HE.out.2.1.raw.cell2
      have c4 := HE.out.2.1.raw.cell4
      have cm := HE.out.2.1.raw.miC HE.out.2.2.1
      rw [← HO.out] at cm
      have hz1 := mod_rng (x := o + 1) N1
      have htm : (o + 1).tmod (M.n : Int) = (o + 1) % (M.n : Int) := Int.tmod_eq_emod_of_nonneg (by omega)
      obtain ⟨z, hz⟩ : ∃ z, z = (o + 1) % (M.n : Int) := ⟨_, rfl⟩
      rw [← hz] at hz1 htm hps
      have hwa : IntKind.i64.wrap (M.a + 1) = M.a + 1 := by rw [IntKind.wrap_i64]; omega
      have hwb : IntKind.i64.wrap (o + 1) = o + 1 := by rw [IntKind.wrap_i64]; omega
      have hwc : IntKind.i64.wrap (M.a + 1 + z) = M.a + 1 + z := by rw [IntKind.wrap_i64]; omega
      have cA := ra_store (HE.out.2.2.2.1.after ((Wrote.refl Nil _).drew) fun _ _ => id) u (M.a + 1 + z) 1 (by omega) (by omega) HE.out.1.hD HE.out.1.hws HE.out.1.hac HE.out.2.2.2.2.1
      have hNn : M.n ≠ 0 := by omega
      clear hz
      go_wp2
      go_region_held3 (fun w' => w'.cell? ⟨M.r, 1, none⟩ = some (.int .i64 M.a) ∧ w'.cell? ⟨M.r, 2, none⟩ = some (.int .i64 (M.n : Nat)) ∧ w'.cell? ⟨M.r, 4, none⟩ = some (.slice (some ⟨M.mn, 0, none⟩) s.n s.n) ∧ w'.cell? ⟨M.mn, k, none⟩ = some (.int .i64 o)) (first | exact ⟨c1, c2, c4, cm⟩ | exact ⟨d1', d2', d4', y0⟩) (first | (go_at_call 107; (with_reducible refine cA.mono ?_); intro e w2 hq; unfold RaPost at hq; obtain ⟨rfl, hRS, hW⟩ := hq; have hA := HE.out.2.1.drew.port hRS hW; have d1' := hA.raw.cell1; have d2' := hA.raw.cell2; have d4' := hA.raw.cell4; have y0 := hA.raw.miC HE.out.2.2.1; rw [← HO.out] at y0; have k0 := hA.dcell.1; have kz := blk_frozen hA.did 0; have HC := Lib.hid hA; clear hA hRS hW))
      go_wp2
      go_meet
      refine ⟨?_, fun e => absurd rfl e⟩
      rw [hps, hd]
      exact HC.out.setD 0 (.int .i64 3) ⟨3, false, false, false⟩ rfl
    · have b3 : (y == 3) = false := beq_false_of_ne h3
      have hps : ps1 = ps := by rw [HP.out.1, if_neg h3]
      have hd : d1 = Dd.no := by rw [HP.out.2, if_neg h3]
      go_wp2
      go_meet
      rw [hps, hd]
      exact ⟨HE.out.2.1, fun _ => HE.out.2.2.2.1⟩
  case rest =>
    obtain ⟨hF1, hR1⟩ := hcut
    have c0 := hF1.raw.cell0
    have cs := SrAt.cell0 hF1.raw.seat
    rw [HE.out.2.2.2.2.2] at cs
    have ct := SrAt.at_g hF1.raw.seat HE.out.2.2.2.2.2 (by omega) (stL_at s HE.out.2.2.1)
    rw [← HY.out] at ct
    have HF := Lib.hid (And.intro hF1 hR1)
    clear hF1 hR1
    go_upto_if 69 with fail
    clear c0 cs ct
    go_cut [] from 25 to 148 (fun wx => Fm w wx M bk dv s r.p r.mi r.ps w.heap.size (w.heap.size + 1) r.d)
    case first =>
      by_cases h1 : y = 1
      · subst h1
        have hps : ps1 = ps := by rw [HP.out.1, if_neg (by decide)]
        have hd : d1 = Dd.no := by rw [HP.out.2, if_neg (by decide)]
        rw [hps, hd] at HF
        have hRA := HF.out.2 (by decide)
        have hr := HR.out
        rw [if_neg (by decide), if_pos rfl] at hr
        have c3 := HF.out.1.raw.cell3
        have cp := HF.out.1.raw.pcC HE.out.2.2.1
        obtain ⟨pk, hpk⟩ : ∃ pk, pk = p k := ⟨_, rfl⟩
        have hw := HW.out
        rw [← hpk] at cp hr hw
        have hp2 := hp
        rw [← hpk] at hp2
        have c1 := HF.out.1.raw.cell1
        have c2 := HF.out.1.raw.cell2
        have c4 := HF.out.1.raw.cell4
        have cm := HF.out.1.raw.miC HE.out.2.2.1
        rw [← HO.out] at cm
        have bsz : M.base ≤ wc.drew.heap.size := Nat.le_trans HF.out.1.bw HF.out.1.wr.drew.size
        have hwa : IntKind.i64.wrap (M.a + 1) = M.a + 1 := by rw [IntKind.wrap_i64]; omega
        have HRA := Lib.hid (And.intro (hRA.after ((Wrote.refl Nil _).drew) fun _ _ => id) bsz)
        clear hpk hRA bsz
        rcases hp2 with rfl | rfl | rfl
        · rw [if_pos rfl] at hr
          have HQ := Lib.hid hr
          obtain ⟨t0, t1⟩ := HT5.out
          obtain ⟨v, hv⟩ : ∃ v, v = tellS ps u 5 M.a := ⟨_, rfl⟩
          have cA := ra_add HRA.out.1 u M.a 1 (by omega) (by omega) HE.out.1.hD HE.out.1.hws HE.out.1.hac HRA.out.2
          rw [← hv] at cA t0 t1
          have htm : v.tmod (M.n : Int) = v % (M.n : Int) := Int.tmod_eq_emod_of_nonneg t0
          have hz1 := mod_rng (x := v) N1
          obtain ⟨z, hz⟩ : ∃ z, z = v % (M.n : Int) := ⟨_, rfl⟩
          rw [← hz] at htm hz1
          have hwv : IntKind.i64.wrap v = v := by rw [IntKind.wrap_i64]; omega
          have hNn : M.n ≠ 0 := by omega
          have HZ2 := Lib.hid (And.intro hv hz)
          clear hr hv hz cm hw
          go_wp2
          go_region_held3 (fun w' => w'.cell? ⟨M.r, 1, none⟩ = some (.int .i64 M.a) ∧ w'.cell? ⟨M.r, 2, none⟩ = some (.int .i64 (M.n : Nat)) ∧ w'.cell? ⟨M.r, 4, none⟩ = some (.slice (some ⟨M.mn, 0, none⟩) s.n s.n)) (first | exact ⟨c1, c2, c4⟩ | exact ⟨d1', d2', d4'⟩ | exact ⟨q1, q2, q4⟩) (first | (go_at_call 108; (with_reducible refine cA.mono ?_); intro e w2 hq; unfold RaPost at hq; obtain ⟨rfl, hRS, hW⟩ := hq; have hA := HF.out.1.drew.port hRS hW; have d1' := hA.raw.cell1; have d2' := hA.raw.cell2; have d4' := hA.raw.cell4; have y0 := hA.raw.miC HE.out.2.2.1; have yz := hA.raw.miZ k; have hB := hA.setM k z; have q1 := hB.raw.cell1; have q2 := hB.raw.cell2; have q4 := hB.raw.cell4; have q3 := hB.raw.cell3; have qp := hB.raw.pcC HE.out.2.2.1; have qz := hB.raw.pcZ k; have hC := hB.setP k 1; have k1 := hC.dcell.2.1; have kz := blk_frozen hC.did 1; have HC := Lib.hid hC; clear hA hB hC hRS hW))
          go_wp2
          go_meet
          rw [HQ.out, ← HZ2.out.1, ← HZ2.out.2]
          exact HC.out.setD 1 (.int .i64 1) ⟨0, true, false, false⟩ rfl
        · rw [if_neg (by decide), if_pos rfl] at hr
          obtain ⟨o0, o1⟩ := hw (.inr (by decide))
          have hwc : IntKind.i64.wrap (M.a + 1 + o) = M.a + 1 + o := by rw [IntKind.wrap_i64]; omega
          have cA := ra_load HRA.out.1 u (M.a + 1 + o) HE.out.1.hD HE.out.1.hws HE.out.1.hac HRA.out.2
          obtain ⟨v, hv⟩ : ∃ v, v = tellS ps u 1 (M.a + 1 + o) := ⟨_, rfl⟩
          rw [← hv] at cA hr
          clear hv hw c2
          by_cases hv0 : v = 0
          · rw [if_pos hv0] at hr
            have HQ := Lib.hid hr
            subst hv0
            clear hr
            go_wp2
            go_region_held3 (fun w' => w'.cell? ⟨M.r, 1, none⟩ = some (.int .i64 M.a) ∧ w'.cell? ⟨M.r, 4, none⟩ = some (.slice (some ⟨M.mn, 0, none⟩) s.n s.n) ∧ w'.cell? ⟨M.mn, k, none⟩ = some (.int .i64 o)) (first | exact ⟨c1, c4, cm⟩ | exact ⟨d1', d4', y0⟩) (first | (go_at_call 109; (with_reducible refine cA.mono ?_); intro e w2 hq; unfold RaPost at hq; obtain ⟨rfl, hRS, hW⟩ := hq; have hA := HF.out.1.drew.port hRS hW; have d1' := hA.raw.cell1; have d3' := hA.raw.cell3; have d4' := hA.raw.cell4; have y0 := hA.raw.miC HE.out.2.2.1; rw [← HO.out] at y0; have qp := hA.raw.pcC HE.out.2.2.1; have qz := hA.raw.pcZ k; have HC := Lib.hid hA; clear hA hRS hW))
            go_wp2
            go_meet
            rw [HQ.out]
            exact HC.out
          · rw [if_neg hv0] at hr
            have HQ := Lib.hid hr
            have b1 : (v != 0) = true := by simpa [bne, BEq.beq] using hv0
            clear hr hv0
            go_wp2
            go_region_held3 (fun w' => w'.cell? ⟨M.r, 1, none⟩ = some (.int .i64 M.a) ∧ w'.cell? ⟨M.r, 4, none⟩ = some (.slice (some ⟨M.mn, 0, none⟩) s.n s.n) ∧ w'.cell? ⟨M.mn, k, none⟩ = some (.int .i64 o)) (first | exact ⟨c1, c4, cm⟩ | exact ⟨d1', d4', y0⟩) (first | (go_at_call 109; (with_reducible refine cA.mono ?_); intro e w2 hq; unfold RaPost at hq; obtain ⟨rfl, hRS, hW⟩ := hq; have hA := HF.out.1.drew.port hRS hW; have d1' := hA.raw.cell1; have d3' := hA.raw.cell3; have d4' := hA.raw.cell4; have y0 := hA.raw.miC HE.out.2.2.1; rw [← HO.out] at y0; have qp := hA.raw.pcC HE.out.2.2.1; have qz := hA.raw.pcZ k; have HC := Lib.hid hA; clear hA hRS hW))
            go_wp2
            go_meet
            rw [HQ.out]
            exact HC.out.setP k 2
        · rw [if_neg (by decide), if_neg (by decide)] at hr
          have HQ := Lib.hid hr
          obtain ⟨o0, o1⟩ := hw (.inr (by decide))
          have hwc : IntKind.i64.wrap (M.a + 1 + o) = M.a + 1 + o := by rw [IntKind.wrap_i64]; omega
          have cA := ra_store HRA.out.1 u (M.a + 1 + o) 0 (by omega) (by omega) HE.out.1.hD HE.out.1.hws HE.out.1.hac HRA.out.2
          clear hr hw c2
          go_wp2
          go_region_held3 (fun w' => w'.cell? ⟨M.r, 1, none⟩ = some (.int .i64 M.a) ∧ w'.cell? ⟨M.r, 4, none⟩ = some (.slice (some ⟨M.mn, 0, none⟩) s.n s.n) ∧ w'.cell? ⟨M.mn, k, none⟩ = some (.int .i64 o)) (first | exact ⟨c1, c4, cm⟩ | exact ⟨d1', d4', y0⟩) (first | (go_at_call 107; (with_reducible refine cA.mono ?_); intro e w2 hq; unfold RaPost at hq; obtain ⟨rfl, hRS, hW⟩ := hq; have hA := HF.out.1.drew.port hRS hW; have d1' := hA.raw.cell1; have d4' := hA.raw.cell4; have y0 := hA.raw.miC HE.out.2.2.1; rw [← HO.out] at y0; have k0 := hA.dcell.1; have kz := blk_frozen hA.did 0; have HC := Lib.hid hA; clear hA hRS hW))
          go_wp2
          go_meet
          rw [HQ.out]
          exact HC.out.setD 0 (.int .i64 1) ⟨1, false, false, false⟩ rfl
      · have b1 : (y == 1) = false := beq_false_of_ne h1
        have hr : r = ⟨p, mi, ps1, d1⟩ := by
          rw [HR.out, if_neg h1, HP.out.1, HP.out.2]
          split <;> rfl
        go_wp2
        go_meet
        rw [hr]
        exact HF.out.1
    case rest =>
      go_wp2
      have hF2 := hcut
      have hcs : (s.st k = 3 ∧ r.d.ev = 3) ∨ (s.st k = 1 ∧ r.d.ev = 1) ∨ (s.st k ≠ 3 ∧ r.d.ev = 0) := by
        rw [HR.out, ← HY.out]
        by_cases h3 : y = 3
        · rw [if_pos h3]; exact .inl ⟨h3, rfl⟩
        · rw [if_neg h3]
          by_cases h1 : y = 1
          · rw [if_pos h1]
            repeat' split
            all_goals first | exact .inr (.inr ⟨h3, rfl⟩) | exact .inr (.inl ⟨h1, rfl⟩)
          · rw [if_neg h1]; exact .inr (.inr ⟨h3, rfl⟩)
      have hwy : r.d.ev = 0 → behindI (s.st k) r.d.ev = none := fun e => by
        rw [e]
        unfold behindI
        rw [if_neg (fun q => absurd q.2 (by decide)), if_neg (fun q => q.2.elim (fun q => absurd q (by decide)) fun q => absurd q (by decide)), if_neg (fun q => absurd q.2 (by decide)), if_neg (fun q => q.2.elim (fun q => absurd q (by decide)) fun q => absurd q (by decide))]
      clear HF HP HR HW HT5 HZ hcut
      obtain ⟨rp, rm, rps, ev, enq, arr, lead⟩ := r
      have n0 := hF2.drew.raw.cell0
      have ns := SrAt.cell0 hF2.drew.raw.seat
      rw [HE.out.2.2.2.2.2] at ns
      dsimp only at hcs hwy hF2 ⊢
      rcases hcs with ⟨s3, rfl⟩ | ⟨s1, rfl⟩ | ⟨s0, rfl⟩
      · have HEE := Lib.hid (end_some (s := s) (ev := 3) (y := 0) HE.out.2.2.1 (by rw [s3]; rfl))
        have HGV : Hid (∀ W, SrAt W M.sr M.hv M.dv s.n s.n (stL (s.set k 0 0)) (dlL (s.set k 0 0)) s.timed s.probed → W.cell? ⟨g, k, none⟩ = some (.int .i64 0)) := Lib.hid fun W hW => SrAt.at_g hW HE.out.2.2.2.2.2 (by omega) (by rw [stL_at _ (show k < (s.set k 0 0).n from HE.out.2.2.1)]; show some (upd s.st k 0 k) = _; rw [upd_same])
        have er : rend s k ⟨rp, rm, rps, 3, enq, arr, lead⟩ = upd rp k 0 := by unfold rend; rw [if_pos s3]
        have HER := Lib.hid er
        have HX := Lib.hid hF2
        clear hF2 hwy s3 er
        have nd0 : wc.drew.cell? ⟨w.heap.size + 1, 0, none⟩ = some (.int .i64 3) := HX.out.drew.dcell.1
        have cE := rs_end HX.out.drew.raw.seat n1 n2 (k : Int) 3
        rw [HEE.out.1, HEE.out.2] at cE
        refine wp_region_noPanic ?_
        refine wp_region_held_drew (S := fun W => W.cell? ⟨M.r, 0, none⟩ = some (.pointer (some ⟨M.sr, 0, none⟩)) ∧ W.cell? ⟨w.heap.size + 1, 0, none⟩ = some (.int .i64 3) ∧ W.cell? ⟨M.sr, 0, none⟩ = some (.slice (some ⟨g, 0, none⟩) s.n cg)) (by kernel_rfl) ⟨n0, nd0, ns⟩ (fun hHeld => ?_)
        refine wpAnyH_take (i := 0) (v := ?v1) rfl (by kernel_rfl) (by kernel_rfl) (by kernel_rfl) (fun _ _ _ h => h) (Or.inl ⟨by rfl, ?hy1⟩) (by assumption) ?rest1
        case hy1 => intro w hSw; (try dsimp only at hSw); go_simp; try with_reducible rfl
        (try simp only [Act.put, List.getElem_toArray, List.getElem_cons_zero, List.setIfInBounds_toArray, List.set_cons_zero, List.set_cons_succ])
        refine wpAnyH_take (i := 1) (v := ?v2) rfl (by kernel_rfl) (by kernel_rfl) (by kernel_rfl) (fun _ _ _ h => h) (Or.inl ⟨by rfl, ?hy2⟩) (by assumption) ?rest2
        case hy2 => intro w hSw; (try dsimp only at hSw); go_simp; try with_reducible rfl
        (try simp only [Act.put, List.getElem_toArray, List.getElem_cons_succ, List.getElem_cons_zero, List.setIfInBounds_toArray, List.set_cons_zero, List.set_cons_succ])
        refine wpAnyH_take (i := 2) (v := ?v3) rfl (by kernel_rfl) (by kernel_rfl) (by kernel_rfl) (fun _ _ _ h => h) (Or.inl ⟨by rfl, ?hy3⟩) (by assumption) ?rest3
        case hy3 => intro w hSw; (try dsimp only at hSw); go_simp; try with_reducible rfl
        (try simp only [Act.put, List.getElem_toArray, List.getElem_cons_succ, List.getElem_cons_zero, List.setIfInBounds_toArray, List.set_cons_zero, List.set_cons_succ])
        refine wpAnyH_take (i := 3) (v := ?v4) rfl (by kernel_rfl) (by kernel_rfl) (by kernel_rfl) (fun _ _ _ h => h) (Or.inl ⟨by rfl, ?hy4⟩) (by assumption) ?rest4
        case hy4 => intro w hSw; (try dsimp only at hSw); go_simp; try with_reducible rfl
        (try simp only [Act.put, List.getElem_toArray, List.getElem_cons_succ, List.getElem_cons_zero, List.setIfInBounds_toArray, List.set_cons_zero, List.set_cons_succ])
        refine wpAnyH_take (i := 4) (v := ?v5) rfl (by kernel_rfl) (by kernel_rfl) (by kernel_rfl) (fun _ _ _ h => h) (Or.inl ⟨by rfl, ?hy5⟩) (by assumption) ?rest5
        case hy5 => intro w hSw; (try dsimp only at hSw); go_simp; try with_reducible rfl
        (try simp only [Act.put, List.getElem_toArray, List.getElem_cons_succ, List.getElem_cons_zero, List.setIfInBounds_toArray, List.set_cons_zero, List.set_cons_succ])
        refine wpAnyH_take (i := 5) (v := ?v6) rfl (by kernel_rfl) (by kernel_rfl) (by kernel_rfl) (fun _ _ _ h => h) (Or.inl ⟨by rfl, ?hy6⟩) (by assumption) ?rest6
        case hy6 => intro w hSw; (try dsimp only at hSw); go_simp; try with_reducible rfl
        (try simp only [Act.put, List.getElem_toArray, List.getElem_cons_succ, List.getElem_cons_zero, List.setIfInBounds_toArray, List.set_cons_zero, List.set_cons_succ])
        refine wpAnyH_take (i := 6) (v := ?v7) rfl (by kernel_rfl) (by kernel_rfl) (by kernel_rfl) (fun _ _ _ h => h) (Or.inl ⟨by rfl, ?hy7⟩) (by assumption) ?rest7
        case hy7 => intro w hSw; (try dsimp only at hSw); go_simp; try with_reducible rfl
        (try simp only [Act.put, List.getElem_toArray, List.getElem_cons_succ, List.getElem_cons_zero, List.setIfInBounds_toArray, List.set_cons_zero, List.set_cons_succ])
        refine wpAnyH_ready (rs := [7]) (by kernel_rfl) (by simp) ?_
        refine AllReadyH.cons rfl (fun K hK => ?_) AllReadyH.nil
        go_simp
        go_at_call 110
        with_reducible refine cE.mono ?_
        intro e w4 hq
        have hF4 := HX.out.drew.ends (s' := s.set k 0 0) rfl hq
        unfold RsPost at hq
        obtain ⟨rfl, _, _⟩ := hq
        obtain ⟨p0, p1, p2, p3⟩ := hF4.dcell
        obtain ⟨v0, v1, v2, v3⟩ := hF4.rcell
        obtain ⟨x0, x1, x2, x3⟩ := hF4.rfrz
        dsimp only at p0 p1 p2 p3
        have m0 := hF4.raw.cell0
        have ms := SrAt.cell0 hF4.raw.seat
        rw [HE.out.2.2.2.2.2] at ms
        have m3 : w4.cell? ⟨M.r, 3, none⟩ = some (.slice (some ⟨M.pc, 0, none⟩) s.n s.n) := hF4.raw.cell3
        have mp := hF4.raw.pcC HE.out.2.2.1
        have mz := hF4.raw.pcZ k
        have mt := HGV.out _ hF4.raw.seat
        have hF5 := hF4.setP k 0
        obtain ⟨pp0, pp1, pp2, pp3⟩ := hF5.dcell
        obtain ⟨vv0, vv1, vv2, vv3⟩ := hF5.rcell
        obtain ⟨xx0, xx1, xx2, xx3⟩ := hF5.rfrz
        dsimp only at pp0 pp1 pp2 pp3
        have HT5 := Lib.hid hF5
        clear hF5
        have HT := Lib.hid hF4
        clear hF4
        go_wp2
        refine hK.out _ _ (⟨m0, p0, ms⟩) (fun hHeld2 => ?_)
        clear hHeld K hK
        have hHeld := hHeld2
        clear hHeld2
        (try simp only [Act.put, List.getElem_toArray, List.getElem_cons_succ, List.getElem_cons_zero, List.setIfInBounds_toArray, List.set_cons_zero, List.set_cons_succ])
        refine wpAnyH_take (i := 8) (v := ?v8) rfl (by kernel_rfl) (by kernel_rfl) (by kernel_rfl) (fun _ _ _ h => h) (Or.inl ⟨by rfl, ?hy8⟩) (by assumption) ?rest8
        case hy8 => intro w hSw; (try dsimp only at hSw); go_simp; try with_reducible rfl
        (try simp only [Act.put, List.getElem_toArray, List.getElem_cons_succ, List.getElem_cons_zero, List.setIfInBounds_toArray, List.set_cons_zero, List.set_cons_succ])
        refine wpAnyH_take (i := 9) (v := ?v9) rfl (by kernel_rfl) (by kernel_rfl) (by kernel_rfl) (fun _ _ _ h => h) (Or.inl ⟨by rfl, ?hy9⟩) (by assumption) ?rest9
        case hy9 => intro w hSw; (try dsimp only at hSw); go_simp; try with_reducible rfl
        (try simp only [Act.put, List.getElem_toArray, List.getElem_cons_succ, List.getElem_cons_zero, List.setIfInBounds_toArray, List.set_cons_zero, List.set_cons_succ])
        refine wpAnyH_take (i := 10) (v := ?v10) rfl (by kernel_rfl) (by kernel_rfl) (by kernel_rfl) (fun _ _ _ h => h) (Or.inl ⟨by rfl, ?hy10⟩) (by assumption) ?rest10
        case hy10 => intro w hSw; (try dsimp only at hSw); go_simp; try with_reducible rfl
        (try simp only [Act.put, List.getElem_toArray, List.getElem_cons_succ, List.getElem_cons_zero, List.setIfInBounds_toArray, List.set_cons_zero, List.set_cons_succ])
        refine wpAnyH_take (i := 11) (v := ?v11) rfl (by kernel_rfl) (by kernel_rfl) (by kernel_rfl) (fun _ _ _ h => h) (Or.inl ⟨by rfl, ?hy11⟩) (by assumption) ?rest11
        case hy11 => intro w hSw; (try dsimp only at hSw); go_simp; try with_reducible rfl
        (try simp only [Act.put, List.getElem_toArray, List.getElem_cons_succ, List.getElem_cons_zero, List.setIfInBounds_toArray, List.set_cons_zero, List.set_cons_succ])
        refine wpAnyH_take (i := 12) (v := ?v12) rfl (by kernel_rfl) (by kernel_rfl) (by kernel_rfl) (fun _ _ _ h => h) (Or.inl ⟨by rfl, ?hy12⟩) (by assumption) ?rest12
        case hy12 => intro w hSw; (try dsimp only at hSw); go_simp; try with_reducible rfl
        (try simp only [Act.put, List.getElem_toArray, List.getElem_cons_succ, List.getElem_cons_zero, List.setIfInBounds_toArray, List.set_cons_zero, List.set_cons_succ])
        refine wpAnyH_take (i := 13) (v := ?v13) rfl (by kernel_rfl) (by kernel_rfl) (by kernel_rfl) (fun _ _ _ h => h) (Or.inl ⟨by rfl, ?hy13⟩) (by assumption) ?rest13
        case hy13 => intro w hSw; (try dsimp only at hSw); go_simp; try with_reducible rfl
        (try simp only [Act.put, List.getElem_toArray, List.getElem_cons_succ, List.getElem_cons_zero, List.setIfInBounds_toArray, List.set_cons_zero, List.set_cons_succ])
        refine wpAnyH_take (i := 14) (v := ?v14) rfl (by kernel_rfl) (by kernel_rfl) (by kernel_rfl) (fun _ _ _ h => h) (Or.inl ⟨by rfl, ?hy14⟩) (by assumption) ?rest14
        case hy14 => intro w hSw; (try dsimp only at hSw); go_simp; try with_reducible rfl
        (try simp only [Act.put, List.getElem_toArray, List.getElem_cons_succ, List.getElem_cons_zero, List.setIfInBounds_toArray, List.set_cons_zero, List.set_cons_succ])
        refine wpAnyH_take (i := 15) (v := ?v15) rfl (by kernel_rfl) (by kernel_rfl) (by kernel_rfl) (fun _ _ _ h => h) (Or.inl ⟨by rfl, ?hy15⟩) (by assumption) ?rest15
        case hy15 => intro w hSw; (try dsimp only at hSw); go_simp; try with_reducible rfl
        (try simp only [Act.put, List.getElem_toArray, List.getElem_cons_succ, List.getElem_cons_zero, List.setIfInBounds_toArray, List.set_cons_zero, List.set_cons_succ])
        refine wpAnyH_take (i := 16) (v := ?v16) rfl (by kernel_rfl) (by kernel_rfl) (by kernel_rfl) (fun _ _ _ h => h) (Or.inl ⟨by rfl, ?hy16⟩) (by assumption) ?rest16
        case hy16 => intro w hSw; (try dsimp only at hSw); go_simp; try with_reducible rfl
        (try simp only [Act.put, List.getElem_toArray, List.getElem_cons_succ, List.getElem_cons_zero, List.setIfInBounds_toArray, List.set_cons_zero, List.set_cons_succ])
        refine wpAnyH_take (i := 17) (v := ?v17) rfl (by kernel_rfl) (by kernel_rfl) (by kernel_rfl) (fun _ _ _ h => h) (Or.inl ⟨by rfl, ?hy17⟩) (by assumption) ?rest17
        case hy17 => intro w hSw; (try dsimp only at hSw); go_simp; try with_reducible rfl
        (try simp only [Act.put, List.getElem_toArray, List.getElem_cons_succ, List.getElem_cons_zero, List.setIfInBounds_toArray, List.set_cons_zero, List.set_cons_succ])
        refine wpAnyH_take (i := 18) (v := ?v18) rfl (by kernel_rfl) (by kernel_rfl) (by kernel_rfl) (fun _ _ _ h => h) (Or.inl ⟨by rfl, ?hy18⟩) (by assumption) ?rest18
        case hy18 => intro w hSw; (try dsimp only at hSw); go_simp; try with_reducible rfl
        (try simp only [Act.put, List.getElem_toArray, List.getElem_cons_succ, List.getElem_cons_zero, List.setIfInBounds_toArray, List.set_cons_zero, List.set_cons_succ])
        refine wpAnyH_ready (rs := [19]) (by kernel_rfl) (by simp) ?_
        refine AllReadyH.cons rfl (fun K hK => ?_) AllReadyH.nil
        go_simp
        refine hK.out _ _ (⟨m0, p0, ms⟩) (fun hHeld2 => ?_)
        clear hHeld K hK
        have hHeld := hHeld2
        clear hHeld2
        (try simp only [Act.put, List.getElem_toArray, List.getElem_cons_succ, List.getElem_cons_zero, List.setIfInBounds_toArray, List.set_cons_zero, List.set_cons_succ])
        refine wpAnyH_take (i := 20) (v := ?v19) rfl (by kernel_rfl) (by kernel_rfl) (by kernel_rfl) (fun _ _ _ h => h) (Or.inl ⟨by rfl, ?hy19⟩) (by assumption) ?rest19
        case hy19 => intro w hSw; (try dsimp only at hSw); go_simp; try with_reducible rfl
        (try simp only [Act.put, List.getElem_toArray, List.getElem_cons_succ, List.getElem_cons_zero, List.setIfInBounds_toArray, List.set_cons_zero, List.set_cons_succ])
        refine wpAnyH_take (i := 21) (v := ?v20) rfl (by kernel_rfl) (by kernel_rfl) (by kernel_rfl) (fun _ _ _ h => h) (Or.inl ⟨by rfl, ?hy20⟩) (by assumption) ?rest20
        case hy20 => intro w hSw; (try dsimp only at hSw); go_simp; try with_reducible rfl
        (try simp only [Act.put, List.getElem_toArray, List.getElem_cons_succ, List.getElem_cons_zero, List.setIfInBounds_toArray, List.set_cons_zero, List.set_cons_succ])
        refine wpAnyH_done (by kernel_rfl) ?_ _
        refine NoPanic.normal ?_
        go_wp2
        refine bodyPost_ret (v := Dd.rval ⟨3, enq, arr, lead⟩) (results_cell_row rfl _ _ w.heap.size 130 _ (0, 0) _ rfl (set4 HT5.out.res rfl _ _ _ _) Try.underlying130 rfl i_rid) rfl (ml_fit HEE.out.1 HER.out HT5.out.told)
      · have HEE := Lib.hid (end_some (s := s) (ev := 1) (y := 2) HE.out.2.2.1 (by rw [s1]; rfl))
        have HGV : Hid (∀ W, SrAt W M.sr M.hv M.dv s.n s.n (stL (s.set k 2 0)) (dlL (s.set k 2 0)) s.timed s.probed → W.cell? ⟨g, k, none⟩ = some (.int .i64 2)) := Lib.hid fun W hW => SrAt.at_g hW HE.out.2.2.2.2.2 (by omega) (by rw [stL_at _ (show k < (s.set k 2 0).n from HE.out.2.2.1)]; show some (upd s.st k 2 k) = _; rw [upd_same])
        have er : rend s k ⟨rp, rm, rps, 1, enq, arr, lead⟩ = rp := by unfold rend; rw [if_neg (by omega)]
        have HER := Lib.hid er
        have HX := Lib.hid hF2
        clear hF2 hwy s1 er
        have nd0 : wc.drew.cell? ⟨w.heap.size + 1, 0, none⟩ = some (.int .i64 1) := HX.out.drew.dcell.1
        have cE := rs_end HX.out.drew.raw.seat n1 n2 (k : Int) 1
        rw [HEE.out.1, HEE.out.2] at cE
        refine wp_region_noPanic ?_
        refine wp_region_held_drew (S := fun W => W.cell? ⟨M.r, 0, none⟩ = some (.pointer (some ⟨M.sr, 0, none⟩)) ∧ W.cell? ⟨w.heap.size + 1, 0, none⟩ = some (.int .i64 1) ∧ W.cell? ⟨M.sr, 0, none⟩ = some (.slice (some ⟨g, 0, none⟩) s.n cg)) (by kernel_rfl) ⟨n0, nd0, ns⟩ (fun hHeld => ?_)
        refine wpAnyH_take (i := 0) (v := ?v21) rfl (by kernel_rfl) (by kernel_rfl) (by kernel_rfl) (fun _ _ _ h => h) (Or.inl ⟨by rfl, ?hy21⟩) (by assumption) ?rest21
        case hy21 => intro w hSw; (try dsimp only at hSw); go_simp; try with_reducible rfl
        (try simp only [Act.put, List.getElem_toArray, List.getElem_cons_zero, List.setIfInBounds_toArray, List.set_cons_zero, List.set_cons_succ])
        refine wpAnyH_take (i := 1) (v := ?v22) rfl (by kernel_rfl) (by kernel_rfl) (by kernel_rfl) (fun _ _ _ h => h) (Or.inl ⟨by rfl, ?hy22⟩) (by assumption) ?rest22
        case hy22 => intro w hSw; (try dsimp only at hSw); go_simp; try with_reducible rfl
        (try simp only [Act.put, List.getElem_toArray, List.getElem_cons_succ, List.getElem_cons_zero, List.setIfInBounds_toArray, List.set_cons_zero, List.set_cons_succ])
        refine wpAnyH_take (i := 2) (v := ?v23) rfl (by kernel_rfl) (by kernel_rfl) (by kernel_rfl) (fun _ _ _ h => h) (Or.inl ⟨by rfl, ?hy23⟩) (by assumption) ?rest23
        case hy23 => intro w hSw; (try dsimp only at hSw); go_simp; try with_reducible rfl
        (try simp only [Act.put, List.getElem_toArray, List.getElem_cons_succ, List.getElem_cons_zero, List.setIfInBounds_toArray, List.set_cons_zero, List.set_cons_succ])
        refine wpAnyH_take (i := 3) (v := ?v24) rfl (by kernel_rfl) (by kernel_rfl) (by kernel_rfl) (fun _ _ _ h => h) (Or.inl ⟨by rfl, ?hy24⟩) (by assumption) ?rest24
        case hy24 => intro w hSw; (try dsimp only at hSw); go_simp; try with_reducible rfl
        (try simp only [Act.put, List.getElem_toArray, List.getElem_cons_succ, List.getElem_cons_zero, List.setIfInBounds_toArray, List.set_cons_zero, List.set_cons_succ])
        refine wpAnyH_take (i := 4) (v := ?v25) rfl (by kernel_rfl) (by kernel_rfl) (by kernel_rfl) (fun _ _ _ h => h) (Or.inl ⟨by rfl, ?hy25⟩) (by assumption) ?rest25
        case hy25 => intro w hSw; (try dsimp only at hSw); go_simp; try with_reducible rfl
        (try simp only [Act.put, List.getElem_toArray, List.getElem_cons_succ, List.getElem_cons_zero, List.setIfInBounds_toArray, List.set_cons_zero, List.set_cons_succ])
        refine wpAnyH_take (i := 5) (v := ?v26) rfl (by kernel_rfl) (by kernel_rfl) (by kernel_rfl) (fun _ _ _ h => h) (Or.inl ⟨by rfl, ?hy26⟩) (by assumption) ?rest26
        case hy26 => intro w hSw; (try dsimp only at hSw); go_simp; try with_reducible rfl
        (try simp only [Act.put, List.getElem_toArray, List.getElem_cons_succ, List.getElem_cons_zero, List.setIfInBounds_toArray, List.set_cons_zero, List.set_cons_succ])
        refine wpAnyH_take (i := 6) (v := ?v27) rfl (by kernel_rfl) (by kernel_rfl) (by kernel_rfl) (fun _ _ _ h => h) (Or.inl ⟨by rfl, ?hy27⟩) (by assumption) ?rest27
        case hy27 => intro w hSw; (try dsimp only at hSw); go_simp; try with_reducible rfl
        (try simp only [Act.put, List.getElem_toArray, List.getElem_cons_succ, List.getElem_cons_zero, List.setIfInBounds_toArray, List.set_cons_zero, List.set_cons_succ])
        refine wpAnyH_ready (rs := [7]) (by kernel_rfl) (by simp) ?_
        refine AllReadyH.cons rfl (fun K hK => ?_) AllReadyH.nil
        go_simp
        go_at_call 110
        with_reducible refine cE.mono ?_
        intro e w4 hq
        have hF4 := HX.out.drew.ends (s' := s.set k 2 0) rfl hq
        unfold RsPost at hq
        obtain ⟨rfl, _, _⟩ := hq
        obtain ⟨p0, p1, p2, p3⟩ := hF4.dcell
        obtain ⟨v0, v1, v2, v3⟩ := hF4.rcell
        obtain ⟨x0, x1, x2, x3⟩ := hF4.rfrz
        dsimp only at p0 p1 p2 p3
        have m0 := hF4.raw.cell0
        have ms := SrAt.cell0 hF4.raw.seat
        rw [HE.out.2.2.2.2.2] at ms
        have mt := HGV.out _ hF4.raw.seat
        have HT := Lib.hid hF4
        clear hF4
        go_wp2
        refine hK.out _ _ (⟨m0, p0, ms⟩) (fun hHeld2 => ?_)
        clear hHeld K hK
        have hHeld := hHeld2
        clear hHeld2
        (try simp only [Act.put, List.getElem_toArray, List.getElem_cons_succ, List.getElem_cons_zero, List.setIfInBounds_toArray, List.set_cons_zero, List.set_cons_succ])
        refine wpAnyH_take (i := 8) (v := ?v28) rfl (by kernel_rfl) (by kernel_rfl) (by kernel_rfl) (fun _ _ _ h => h) (Or.inl ⟨by rfl, ?hy28⟩) (by assumption) ?rest28
        case hy28 => intro w hSw; (try dsimp only at hSw); go_simp; try with_reducible rfl
        (try simp only [Act.put, List.getElem_toArray, List.getElem_cons_succ, List.getElem_cons_zero, List.setIfInBounds_toArray, List.set_cons_zero, List.set_cons_succ])
        refine wpAnyH_take (i := 9) (v := ?v29) rfl (by kernel_rfl) (by kernel_rfl) (by kernel_rfl) (fun _ _ _ h => h) (Or.inl ⟨by rfl, ?hy29⟩) (by assumption) ?rest29
        case hy29 => intro w hSw; (try dsimp only at hSw); go_simp; try with_reducible rfl
        (try simp only [Act.put, List.getElem_toArray, List.getElem_cons_succ, List.getElem_cons_zero, List.setIfInBounds_toArray, List.set_cons_zero, List.set_cons_succ])
        refine wpAnyH_take (i := 10) (v := ?v30) rfl (by kernel_rfl) (by kernel_rfl) (by kernel_rfl) (fun _ _ _ h => h) (Or.inl ⟨by rfl, ?hy30⟩) (by assumption) ?rest30
        case hy30 => intro w hSw; (try dsimp only at hSw); go_simp; try with_reducible rfl
        (try simp only [Act.put, List.getElem_toArray, List.getElem_cons_succ, List.getElem_cons_zero, List.setIfInBounds_toArray, List.set_cons_zero, List.set_cons_succ])
        refine wpAnyH_take (i := 11) (v := ?v31) rfl (by kernel_rfl) (by kernel_rfl) (by kernel_rfl) (fun _ _ _ h => h) (Or.inl ⟨by rfl, ?hy31⟩) (by assumption) ?rest31
        case hy31 => intro w hSw; (try dsimp only at hSw); go_simp; try with_reducible rfl
        (try simp only [Act.put, List.getElem_toArray, List.getElem_cons_succ, List.getElem_cons_zero, List.setIfInBounds_toArray, List.set_cons_zero, List.set_cons_succ])
        refine wpAnyH_take (i := 12) (v := ?v32) rfl (by kernel_rfl) (by kernel_rfl) (by kernel_rfl) (fun _ _ _ h => h) (Or.inl ⟨by rfl, ?hy32⟩) (by assumption) ?rest32
        case hy32 => intro w hSw; (try dsimp only at hSw); go_simp; try with_reducible rfl
        (try simp only [Act.put, List.getElem_toArray, List.getElem_cons_succ, List.getElem_cons_zero, List.setIfInBounds_toArray, List.set_cons_zero, List.set_cons_succ])
        refine wpAnyH_take (i := 13) (v := ?v33) rfl (by kernel_rfl) (by kernel_rfl) (by kernel_rfl) (fun _ _ _ h => h) (Or.inl ⟨by rfl, ?hy33⟩) (by assumption) ?rest33
        case hy33 => intro w hSw; (try dsimp only at hSw); go_simp; try with_reducible rfl
        (try simp only [Act.put, List.getElem_toArray, List.getElem_cons_succ, List.getElem_cons_zero, List.setIfInBounds_toArray, List.set_cons_zero, List.set_cons_succ])
        refine wpAnyH_take (i := 14) (v := ?v34) rfl (by kernel_rfl) (by kernel_rfl) (by kernel_rfl) (fun _ _ _ h => h) (Or.inl ⟨by rfl, ?hy34⟩) (by assumption) ?rest34
        case hy34 => intro w hSw; (try dsimp only at hSw); go_simp; try with_reducible rfl
        (try simp only [Act.put, List.getElem_toArray, List.getElem_cons_succ, List.getElem_cons_zero, List.setIfInBounds_toArray, List.set_cons_zero, List.set_cons_succ])
        refine wpAnyH_take (i := 15) (v := ?v35) rfl (by kernel_rfl) (by kernel_rfl) (by kernel_rfl) (fun _ _ _ h => h) (Or.inl ⟨by rfl, ?hy35⟩) (by assumption) ?rest35
        case hy35 => intro w hSw; (try dsimp only at hSw); go_simp; try with_reducible rfl
        (try simp only [Act.put, List.getElem_toArray, List.getElem_cons_succ, List.getElem_cons_zero, List.setIfInBounds_toArray, List.set_cons_zero, List.set_cons_succ])
        refine wpAnyH_take (i := 16) (v := ?v36) rfl (by kernel_rfl) (by kernel_rfl) (by kernel_rfl) (fun _ _ _ h => h) (Or.inl ⟨by rfl, ?hy36⟩) (by assumption) ?rest36
        case hy36 => intro w hSw; (try dsimp only at hSw); go_simp; try with_reducible rfl
        (try simp only [Act.put, List.getElem_toArray, List.getElem_cons_succ, List.getElem_cons_zero, List.setIfInBounds_toArray, List.set_cons_zero, List.set_cons_succ])
        refine wpAnyH_take (i := 17) (v := ?v37) rfl (by kernel_rfl) (by kernel_rfl) (by kernel_rfl) (fun _ _ _ h => h) (Or.inl ⟨by rfl, ?hy37⟩) (by assumption) ?rest37
        case hy37 => intro w hSw; (try dsimp only at hSw); go_simp; try with_reducible rfl
        (try simp only [Act.put, List.getElem_toArray, List.getElem_cons_succ, List.getElem_cons_zero, List.setIfInBounds_toArray, List.set_cons_zero, List.set_cons_succ])
        refine wpAnyH_take (i := 18) (v := ?v38) rfl (by kernel_rfl) (by kernel_rfl) (by kernel_rfl) (fun _ _ _ h => h) (Or.inl ⟨by rfl, ?hy38⟩) (by assumption) ?rest38
        case hy38 => intro w hSw; (try dsimp only at hSw); go_simp; try with_reducible rfl
        (try simp only [Act.put, List.getElem_toArray, List.getElem_cons_succ, List.getElem_cons_zero, List.setIfInBounds_toArray, List.set_cons_zero, List.set_cons_succ])
        refine wpAnyH_ready (rs := [19]) (by kernel_rfl) (by simp) ?_
        refine AllReadyH.cons rfl (fun K hK => ?_) AllReadyH.nil
        go_simp
        refine hK.out _ _ (⟨m0, p0, ms⟩) (fun hHeld2 => ?_)
        clear hHeld K hK
        have hHeld := hHeld2
        clear hHeld2
        (try simp only [Act.put, List.getElem_toArray, List.getElem_cons_succ, List.getElem_cons_zero, List.setIfInBounds_toArray, List.set_cons_zero, List.set_cons_succ])
        refine wpAnyH_take (i := 20) (v := ?v39) rfl (by kernel_rfl) (by kernel_rfl) (by kernel_rfl) (fun _ _ _ h => h) (Or.inl ⟨by rfl, ?hy39⟩) (by assumption) ?rest39
        case hy39 => intro w hSw; (try dsimp only at hSw); go_simp; try with_reducible rfl
        (try simp only [Act.put, List.getElem_toArray, List.getElem_cons_succ, List.getElem_cons_zero, List.setIfInBounds_toArray, List.set_cons_zero, List.set_cons_succ])
        refine wpAnyH_take (i := 21) (v := ?v40) rfl (by kernel_rfl) (by kernel_rfl) (by kernel_rfl) (fun _ _ _ h => h) (Or.inl ⟨by rfl, ?hy40⟩) (by assumption) ?rest40
        case hy40 => intro w hSw; (try dsimp only at hSw); go_simp; try with_reducible rfl
        (try simp only [Act.put, List.getElem_toArray, List.getElem_cons_succ, List.getElem_cons_zero, List.setIfInBounds_toArray, List.set_cons_zero, List.set_cons_succ])
        refine wpAnyH_done (by kernel_rfl) ?_ _
        refine NoPanic.normal ?_
        go_wp2
        refine bodyPost_ret (v := Dd.rval ⟨1, enq, arr, lead⟩) (results_cell_row rfl _ _ w.heap.size 130 _ (0, 0) _ rfl (set4 HT.out.res rfl _ _ _ _) Try.underlying130 rfl i_rid) rfl (ml_fit HEE.out.1 HER.out HT.out.told)
      · have HEE := Lib.hid (end_none (s := s) (ev := 0) HE.out.2.2.1 (hwy rfl))
        have er : rend s k ⟨rp, rm, rps, 0, enq, arr, lead⟩ = rp := by unfold rend; rw [if_neg s0]
        have HER := Lib.hid er
        have HX := Lib.hid hF2
        clear hF2 hwy s0 er
        have nd0 : wc.drew.cell? ⟨w.heap.size + 1, 0, none⟩ = some (.int .i64 0) := HX.out.drew.dcell.1
        have cE := rs_end HX.out.drew.raw.seat n1 n2 (k : Int) 0
        rw [HEE.out.1, HEE.out.2] at cE
        refine wp_region_noPanic ?_
        refine wp_region_held_drew (S := fun W => W.cell? ⟨M.r, 0, none⟩ = some (.pointer (some ⟨M.sr, 0, none⟩)) ∧ W.cell? ⟨w.heap.size + 1, 0, none⟩ = some (.int .i64 0) ∧ W.cell? ⟨M.sr, 0, none⟩ = some (.slice (some ⟨g, 0, none⟩) s.n cg)) (by kernel_rfl) ⟨n0, nd0, ns⟩ (fun hHeld => ?_)
        refine wpAnyH_take (i := 0) (v := ?v41) rfl (by kernel_rfl) (by kernel_rfl) (by kernel_rfl) (fun _ _ _ h => h) (Or.inl ⟨by rfl, ?hy41⟩) (by assumption) ?rest41
        case hy41 => intro w hSw; (try dsimp only at hSw); go_simp; try with_reducible rfl
        (try simp only [Act.put, List.getElem_toArray, List.getElem_cons_zero, List.setIfInBounds_toArray, List.set_cons_zero, List.set_cons_succ])
        refine wpAnyH_take (i := 1) (v := ?v42) rfl (by kernel_rfl) (by kernel_rfl) (by kernel_rfl) (fun _ _ _ h => h) (Or.inl ⟨by rfl, ?hy42⟩) (by assumption) ?rest42
        case hy42 => intro w hSw; (try dsimp only at hSw); go_simp; try with_reducible rfl
        (try simp only [Act.put, List.getElem_toArray, List.getElem_cons_succ, List.getElem_cons_zero, List.setIfInBounds_toArray, List.set_cons_zero, List.set_cons_succ])
        refine wpAnyH_take (i := 2) (v := ?v43) rfl (by kernel_rfl) (by kernel_rfl) (by kernel_rfl) (fun _ _ _ h => h) (Or.inl ⟨by rfl, ?hy43⟩) (by assumption) ?rest43
        case hy43 => intro w hSw; (try dsimp only at hSw); go_simp; try with_reducible rfl
        (try simp only [Act.put, List.getElem_toArray, List.getElem_cons_succ, List.getElem_cons_zero, List.setIfInBounds_toArray, List.set_cons_zero, List.set_cons_succ])
        refine wpAnyH_take (i := 3) (v := ?v44) rfl (by kernel_rfl) (by kernel_rfl) (by kernel_rfl) (fun _ _ _ h => h) (Or.inl ⟨by rfl, ?hy44⟩) (by assumption) ?rest44
        case hy44 => intro w hSw; (try dsimp only at hSw); go_simp; try with_reducible rfl
        (try simp only [Act.put, List.getElem_toArray, List.getElem_cons_succ, List.getElem_cons_zero, List.setIfInBounds_toArray, List.set_cons_zero, List.set_cons_succ])
        refine wpAnyH_take (i := 4) (v := ?v45) rfl (by kernel_rfl) (by kernel_rfl) (by kernel_rfl) (fun _ _ _ h => h) (Or.inl ⟨by rfl, ?hy45⟩) (by assumption) ?rest45
        case hy45 => intro w hSw; (try dsimp only at hSw); go_simp; try with_reducible rfl
        (try simp only [Act.put, List.getElem_toArray, List.getElem_cons_succ, List.getElem_cons_zero, List.setIfInBounds_toArray, List.set_cons_zero, List.set_cons_succ])
        refine wpAnyH_take (i := 5) (v := ?v46) rfl (by kernel_rfl) (by kernel_rfl) (by kernel_rfl) (fun _ _ _ h => h) (Or.inl ⟨by rfl, ?hy46⟩) (by assumption) ?rest46
        case hy46 => intro w hSw; (try dsimp only at hSw); go_simp; try with_reducible rfl
        (try simp only [Act.put, List.getElem_toArray, List.getElem_cons_succ, List.getElem_cons_zero, List.setIfInBounds_toArray, List.set_cons_zero, List.set_cons_succ])
        refine wpAnyH_take (i := 6) (v := ?v47) rfl (by kernel_rfl) (by kernel_rfl) (by kernel_rfl) (fun _ _ _ h => h) (Or.inl ⟨by rfl, ?hy47⟩) (by assumption) ?rest47
        case hy47 => intro w hSw; (try dsimp only at hSw); go_simp; try with_reducible rfl
        (try simp only [Act.put, List.getElem_toArray, List.getElem_cons_succ, List.getElem_cons_zero, List.setIfInBounds_toArray, List.set_cons_zero, List.set_cons_succ])
        refine wpAnyH_ready (rs := [7]) (by kernel_rfl) (by simp) ?_
        refine AllReadyH.cons rfl (fun K hK => ?_) AllReadyH.nil
        go_simp
        go_at_call 110
        with_reducible refine cE.mono ?_
        intro e w4 hq
        have hF4 := HX.out.drew.ends (s' := s) rfl hq
        unfold RsPost at hq
        obtain ⟨rfl, _, _⟩ := hq
        obtain ⟨p0, p1, p2, p3⟩ := hF4.dcell
        obtain ⟨v0, v1, v2, v3⟩ := hF4.rcell
        obtain ⟨x0, x1, x2, x3⟩ := hF4.rfrz
        dsimp only at p0 p1 p2 p3
        have m0 := hF4.raw.cell0
        have ms := SrAt.cell0 hF4.raw.seat
        rw [HE.out.2.2.2.2.2] at ms
        have HT := Lib.hid hF4
        clear hF4
        go_wp2
        refine hK.out _ _ (⟨m0, p0, ms⟩) (fun hHeld2 => ?_)
        clear hHeld K hK
        have hHeld := hHeld2
        clear hHeld2
        (try simp only [Act.put, List.getElem_toArray, List.getElem_cons_succ, List.getElem_cons_zero, List.setIfInBounds_toArray, List.set_cons_zero, List.set_cons_succ])
        refine wpAnyH_take (i := 8) (v := ?v48) rfl (by kernel_rfl) (by kernel_rfl) (by kernel_rfl) (fun _ _ _ h => h) (Or.inl ⟨by rfl, ?hy48⟩) (by assumption) ?rest48
        case hy48 => intro w hSw; (try dsimp only at hSw); go_simp; try with_reducible rfl
        (try simp only [Act.put, List.getElem_toArray, List.getElem_cons_succ, List.getElem_cons_zero, List.setIfInBounds_toArray, List.set_cons_zero, List.set_cons_succ])
        refine wpAnyH_take (i := 9) (v := ?v49) rfl (by kernel_rfl) (by kernel_rfl) (by kernel_rfl) (fun _ _ _ h => h) (Or.inl ⟨by rfl, ?hy49⟩) (by assumption) ?rest49
        case hy49 => intro w hSw; (try dsimp only at hSw); go_simp; try with_reducible rfl
        (try simp only [Act.put, List.getElem_toArray, List.getElem_cons_succ, List.getElem_cons_zero, List.setIfInBounds_toArray, List.set_cons_zero, List.set_cons_succ])
        refine wpAnyH_take (i := 10) (v := undef) rfl (by kernel_rfl) (by kernel_rfl) (by kernel_rfl) (fun _ _ _ h => h) (Or.inr ⟨by rfl, rfl⟩) (by assumption) ?rest50
        (try simp only [Act.put, List.getElem_toArray, List.getElem_cons_succ, List.getElem_cons_zero, List.setIfInBounds_toArray, List.set_cons_zero, List.set_cons_succ])
        refine wpAnyH_take (i := 11) (v := undef) rfl (by kernel_rfl) (by kernel_rfl) (by kernel_rfl) (fun _ _ _ h => h) (Or.inr ⟨by rfl, rfl⟩) (by assumption) ?rest51
        (try simp only [Act.put, List.getElem_toArray, List.getElem_cons_succ, List.getElem_cons_zero, List.setIfInBounds_toArray, List.set_cons_zero, List.set_cons_succ])
        refine wpAnyH_take (i := 12) (v := undef) rfl (by kernel_rfl) (by kernel_rfl) (by kernel_rfl) (fun _ _ _ h => h) (Or.inr ⟨by rfl, rfl⟩) (by assumption) ?rest52
        (try simp only [Act.put, List.getElem_toArray, List.getElem_cons_succ, List.getElem_cons_zero, List.setIfInBounds_toArray, List.set_cons_zero, List.set_cons_succ])
        refine wpAnyH_take (i := 13) (v := undef) rfl (by kernel_rfl) (by kernel_rfl) (by kernel_rfl) (fun _ _ _ h => h) (Or.inr ⟨by rfl, rfl⟩) (by assumption) ?rest53
        (try simp only [Act.put, List.getElem_toArray, List.getElem_cons_succ, List.getElem_cons_zero, List.setIfInBounds_toArray, List.set_cons_zero, List.set_cons_succ])
        refine wpAnyH_take (i := 14) (v := undef) rfl (by kernel_rfl) (by kernel_rfl) (by kernel_rfl) (fun _ _ _ h => h) (Or.inr ⟨by rfl, rfl⟩) (by assumption) ?rest54
        (try simp only [Act.put, List.getElem_toArray, List.getElem_cons_succ, List.getElem_cons_zero, List.setIfInBounds_toArray, List.set_cons_zero, List.set_cons_succ])
        refine wpAnyH_take (i := 15) (v := undef) rfl (by kernel_rfl) (by kernel_rfl) (by kernel_rfl) (fun _ _ _ h => h) (Or.inr ⟨by rfl, rfl⟩) (by assumption) ?rest55
        (try simp only [Act.put, List.getElem_toArray, List.getElem_cons_succ, List.getElem_cons_zero, List.setIfInBounds_toArray, List.set_cons_zero, List.set_cons_succ])
        refine wpAnyH_take (i := 16) (v := undef) rfl (by kernel_rfl) (by kernel_rfl) (by kernel_rfl) (fun _ _ _ h => h) (Or.inr ⟨by rfl, rfl⟩) (by assumption) ?rest56
        (try simp only [Act.put, List.getElem_toArray, List.getElem_cons_succ, List.getElem_cons_zero, List.setIfInBounds_toArray, List.set_cons_zero, List.set_cons_succ])
        refine wpAnyH_take (i := 17) (v := undef) rfl (by kernel_rfl) (by kernel_rfl) (by kernel_rfl) (fun _ _ _ h => h) (Or.inr ⟨by rfl, rfl⟩) (by assumption) ?rest57
        (try simp only [Act.put, List.getElem_toArray, List.getElem_cons_succ, List.getElem_cons_zero, List.setIfInBounds_toArray, List.set_cons_zero, List.set_cons_succ])
        refine wpAnyH_take (i := 18) (v := undef) rfl (by kernel_rfl) (by kernel_rfl) (by kernel_rfl) (fun _ _ _ h => h) (Or.inr ⟨by rfl, rfl⟩) (by assumption) ?rest58
        (try simp only [Act.put, List.getElem_toArray, List.getElem_cons_succ, List.getElem_cons_zero, List.setIfInBounds_toArray, List.set_cons_zero, List.set_cons_succ])
        refine wpAnyH_take (i := 19) (v := undef) rfl (by kernel_rfl) (by kernel_rfl) (by kernel_rfl) (fun _ _ _ h => h) (Or.inr ⟨by rfl, rfl⟩) (by assumption) ?rest59
        (try simp only [Act.put, List.getElem_toArray, List.getElem_cons_succ, List.getElem_cons_zero, List.setIfInBounds_toArray, List.set_cons_zero, List.set_cons_succ])
        refine wpAnyH_take (i := 20) (v := undef) rfl (by kernel_rfl) (by kernel_rfl) (by kernel_rfl) (fun _ _ _ h => h) (Or.inr ⟨by rfl, rfl⟩) (by assumption) ?rest60
        (try simp only [Act.put, List.getElem_toArray, List.getElem_cons_succ, List.getElem_cons_zero, List.setIfInBounds_toArray, List.set_cons_zero, List.set_cons_succ])
        refine wpAnyH_take (i := 21) (v := ?v61) rfl (by kernel_rfl) (by kernel_rfl) (by kernel_rfl) (fun _ _ _ h => h) (Or.inl ⟨by rfl, ?hy61⟩) (by assumption) ?rest61
        case hy61 => intro w hSw; (try dsimp only at hSw); go_simp; try with_reducible rfl
        (try simp only [Act.put, List.getElem_toArray, List.getElem_cons_succ, List.getElem_cons_zero, List.setIfInBounds_toArray, List.set_cons_zero, List.set_cons_succ])
        refine wpAnyH_done (by kernel_rfl) ?_ _
        refine NoPanic.normal ?_
        go_wp2
        refine bodyPost_ret (v := Dd.rval ⟨0, enq, arr, lead⟩) (results_cell_row rfl _ _ w.heap.size 130 _ (0, 0) _ rfl (set4 HT.out.res rfl _ _ _ _) Try.underlying130 rfl i_rid) rfl (ml_fit HEE.out.1 HER.out HT.out.told)
end Go.Proofs.Ytiddapikahchkaa
