/- Whatever is called and stepped of a lock: it does just what the reference's does. -/
import Derived.Test.YtdhpmcafekpfhaaGreatLockOrd
import Derived.Test.YtdhpmcafekpfhaaGreatAbortRall
import Derived.Laws.StructEq
import Derived.Deep.Cut
import Derived.Deep.CutBlock
import Derived.Deep.RegionHeld3
import Derived.BigQuiet
import Derived.BigFrame
namespace Go.Proofs.YtdhpmcafekpfhaaGreat
open Go.RowKit Go.BigFrame
set_option linter.unusedVariables false
set_option maxRecDepth 100000

structure Duo (w0 w : World) (L : Lp) (M : Mp) (f f' : FL) : Prop where
  ls : LkS w0 w L f
  ml : MlAt w M f'
  ref : RefSt w M.base M.pr f'.ps
  lo : L.q.k3 ≤ M.r ∧ ∀ k, MF M k → L.q.k3 ≤ k
  hi : M.r < M.base ∧ ∀ k, MF M k → k < M.base
  bs : L.q.k3 ≤ M.base ∧ M.base ≤ w.heap.size
/-- the law's copies of calls keep what they hold -/
def KpO (base : Nat) (W W' : World) : Prop := ∀ C cs, base ≤ C → W.heap[C]? = some (.cells cs 70 (0, 0)) → W'.heap[C]? = some (.cells cs 70 (0, 0))
theorem KpO.trans {base : Nat} {w w' w'' : World} (h : KpO base w w') (k : KpO base w' w'') : KpO base w w'' := fun C cs hC x => k C cs hC (h C cs hC x)
theorem KpO.of {base : Nat} {w w' : World} {S : Nat → Prop} (k : Wrote S w w') (hS : ∀ b, S b → b < base) : KpO base w w' := fun C cs hC x => (k.block C (blk_lt x) fun e => by have := hS C e; omega).trans x
theorem KpO.nil {base : Nat} {w w' : World} (k : Wrote Nil w w') : KpO base w w' := fun C cs hC x => (k.block C (blk_lt x) id).trans x
/-- a copy of a call is none of the port's blocks -/
theorem foot_op {w : World} {base r bk C : Nat} {so : Option Addr} {cap : Nat} {dv : Value} {ps : PSta} {cs : Array Value} (hr : RefAt w base r bk so cap dv ps) (hd : w.heap[C]? = some (.cells cs 70 (0, 0))) : ¬ Foot r bk dv C := by
  rintro (rfl | rfl | e)
  · have h1 := hr.obj; rw [hd] at h1; cases h1
  · obtain ⟨c, h1, _⟩ := hr.counts
    rw [hd] at h1; cases h1
  · rcases hr.touched.2 with ⟨rfl, _⟩ | ⟨g, cp, cur, rfl, _, hg, _⟩
    · simp [Value.ownBlock] at e
    · obtain rfl : g = C := by simpa [Value.ownBlock] using e
      rw [hd] at hg; cases hg
namespace Duo
variable {w0 w w' : World} {L : Lp} {M : Mp} {f f' g : FL}
theorem after (h : Duo w0 w L M f f') (k : Wrote Nil w w') : Duo w0 w' L M f f' := by
  obtain ⟨bk, so, cap, dv, hr⟩ := h.ref
  exact ⟨h.ls.after k, h.ml.after k, ⟨bk, so, cap, dv, hr.after k fun _ _ => id⟩, h.lo, h.hi, h.bs.1, Nat.le_trans h.bs.2 k.size⟩
theorem drew (h : Duo w0 w L M f f') : Duo w0 w.drew L M f f' := h.after ((Wrote.refl _ w).drew)
/-- behind a call of the lock -/
theorem mach (h : Duo w0 w L M f f') (hl : LkS w0 w' L g) (k : Wrote (Low L) w w') : Duo w0 w' L M g f' := by
  obtain ⟨bk, so, cap, dv, hr⟩ := h.ref
  have hlo := h.lo
  have hb := h.bs.1
  refine ⟨hl, h.ml.apart k (fun e => by unfold Low at e; omega) (fun j hj e => by have := hlo.2 j hj; unfold Low at e; omega), ⟨bk, so, cap, dv, hr.after k fun b hb e => by unfold Low at e; omega⟩, h.lo, h.hi, h.bs.1, Nat.le_trans h.bs.2 k.size⟩
/-- behind a call of the reference's seats -/
theorem seat (h : Duo w0 w L M f f') {s' : SS} (hn : s'.n = f'.s.n) {x : Int} {e : Ending} (k : RsPost w M.sr M.hv M.dv s' x e w') : Duo w0 w' L M f { f' with s := s' } ∧ KpO M.base w w' := by
  obtain ⟨bk, so, cap, dv, hr⟩ := h.ref
  have hlo := h.lo
  have hhi := h.hi
  refine ⟨⟨h.ls.apart k.2.2 fun b hb => hlo.2 b (mf_sf hb), h.ml.seats k.2.1 hn k.2.2, ⟨bk, so, cap, dv, hr.after k.2.2 fun b hb e => by have := hhi.2 b (mf_sf e); omega⟩, h.lo, h.hi, h.bs.1, Nat.le_trans h.bs.2 k.2.2.size⟩, KpO.of k.2.2 fun b hb => hhi.2 b (mf_sf hb)⟩
/-- behind a step of the reference -/
theorem rstep (h : Duo w0 w L M f f') {bk : Nat} {so : Option Addr} {cap : Nat} {dv : Value} (hr : RefAt w M.base M.pr bk so cap dv f'.ps) {g : FL} {d : Dd} {e : Ending} (k : MmPost w M bk dv g d e w') : Duo w0 w' L M f g ∧ KpO M.base w w' := by
  obtain ⟨he, hm, hR, hW⟩ := k
  have hlo := h.lo
  have hhi := h.hi
  have hbs := h.bs
  refine ⟨⟨h.ls.apart hW fun b hb => ?_, hm, hR, h.lo, h.hi, h.bs.1, Nat.le_trans h.bs.2 hW.size⟩, fun C cs hC x => (hW.block C (blk_lt x) fun e => ?_).trans x⟩
  · rcases hb with hb | hb
    · exact hlo.2 b hb
    · have := (foot_lt hr hb).1; omega
  · rcases e with e | e
    · have := hhi.2 C e; omega
    · exact foot_op hr x e
theorem low (h : Duo w0 w L M f f') (k : Wrote (Low L) w w') : KpO M.base w w' := KpO.of k fun b hb => by have := h.bs.1; unfold Low at hb; omega
end Duo
/-- behind a call of the lock; of the reference -/
def TmPost (w0 w : World) (L : Lp) (M : Mp) (f f' : FL) (v : Value) (e : Ending) (w' : World) : Prop := e = .returned v ∧ Duo w0 w' L M f f' ∧ Wrote (Low L) w w' ∧ KpO M.base w w'
def TrPost (w0 w : World) (L : Lp) (M : Mp) (f f' : FL) (v : Value) (e : Ending) (w' : World) : Prop := e = .returned v ∧ Duo w0 w' L M f f' ∧ KpO M.base w w'
section
variable {w0 w : World} {L : Lp} {M : Mp} {f f' : FL}
theorem tw_lock (h : Duo w0 w L M f f') (t d : Int) : Calls Tryz.prog 13 #[.pointer (some ⟨L.p, 0, none⟩), .int .i64 t, .int .i64 d] w (TmPost w0 w L M (f.lock t d) f' (.int .i64 (lockE f.s t d))) :=
  (ls_lock h.ls t d).mono fun e w' ⟨he, hl, hW⟩ => ⟨he, h.mach hl hW, hW, h.low hW⟩
theorem tw_unlock (h : Duo w0 w L M f f') (t : Int) : Calls Tryz.prog 111 #[.pointer (some ⟨L.p, 0, none⟩), .int .i64 t] w (TmPost w0 w L M (f.turn t 3) f' (.int .i64 (turnE f.s t))) :=
  (ls_unlock h.ls t).mono fun e w' ⟨he, hl, hW⟩ => ⟨he, h.mach hl hW, hW, h.low hW⟩
theorem tw_probe (h : Duo w0 w L M f f') (t : Int) : Calls Tryz.prog 110 #[.pointer (some ⟨L.p, 0, none⟩), .int .i64 t] w (TmPost w0 w L M (f.probe t) f' (.int .i64 (probeE f.s t))) :=
  (ls_probe h.ls t).mono fun e w' ⟨he, hl, hW⟩ => ⟨he, h.mach hl hW, hW, h.low hW⟩
theorem tw_step (h : Duo w0 w L M f f') (t u x : Int) (hD : f.ps.D.length < 4611686018427387904) : Calls Tryz.prog 14 #[.pointer (some ⟨L.lb, 0, none⟩), .int .i64 t, .int .i64 u, .int .i64 x] w (TmPost w0 w L M (f.step L t u x) f' (f.did L t u x).val) :=
  (ls_step h.ls t u x hD).mono fun e w' ⟨he, hl, hW⟩ => ⟨he, h.mach hl hW, hW, h.low hW⟩
theorem tw_rlock (h : Duo w0 w L M f f') (n1 : 1 ≤ f'.s.n) (n2 : f'.s.n ≤ 64) (t d : Int) : Calls Tryz.prog 43 #[.pointer (some ⟨M.sr, 0, none⟩), .int .i64 t, .int .i64 d] w (TrPost w0 w L M f (f'.lock t d) (.int .i64 (lockE f'.s t d))) := by
  obtain ⟨mi, h1, _⟩ := h.ml.raw
  exact (rs_lock h1.seat n1 n2 t d).mono fun e w' k => ⟨k.1, h.seat (SS.lock_n _ _ _) k⟩
theorem tw_runlock (h : Duo w0 w L M f f') (n1 : 1 ≤ f'.s.n) (n2 : f'.s.n ≤ 64) (t : Int) : Calls Tryz.prog 44 #[.pointer (some ⟨M.sr, 0, none⟩), .int .i64 t, .int .i64 3] w (TrPost w0 w L M f (f'.turn t 3) (.int .i64 (turnE f'.s t))) := by
  obtain ⟨mi, h1, _⟩ := h.ml.raw
  have c := rs_turn h1.seat n1 n2 t 3 (by decide)
  rw [(rturn_three f'.s t).1, (rturn_three f'.s t).2] at c
  exact c.mono fun e w' k => ⟨k.1, h.seat (SS.turn_n _ _ _) k⟩
theorem tw_rprobe (h : Duo w0 w L M f f') (n1 : 1 ≤ f'.s.n) (n2 : f'.s.n ≤ 64) (t : Int) : Calls Tryz.prog 44 #[.pointer (some ⟨M.sr, 0, none⟩), .int .i64 t, .int .i64 4] w (TrPost w0 w L M f (f'.probe t) (.int .i64 (probeE f'.s t))) := by
  obtain ⟨mi, h1, _⟩ := h.ml.raw
  have c := rs_turn h1.seat n1 n2 t 4 (by decide)
  rw [(rturn_four f'.s t).1, (rturn_four f'.s t).2] at c
  exact c.mono fun e w' k => ⟨k.1, h.seat (SS.probe_n _ _) k⟩
/-- what bounds both -/
structure TwIn (L : Lp) (M : Mp) (f : FL) : Prop where
  n1 : 1 ≤ f.s.n
  ord : ∃ W, OrdI f W
  hD : f.ps.D.length < 100000
  hws : f.ps.ws.length ≤ 4096
  ha : M.a = 0
  l1 : L.a1 = 0
  l2 : L.a2 = 1
theorem TwIn.n8 {L : Lp} {M : Mp} {f : FL} (h : TwIn L M f) : f.s.n ≤ 8 := by obtain ⟨W, h⟩ := h.ord; exact h.n8
theorem tw_rstep (h : Duo w0 w L M f f) (hI : TwIn L M f) (t u x : Int) : Calls Tryz.prog 115 #[.pointer (some ⟨M.r, 0, none⟩), .pointer (some ⟨M.pr, 0, none⟩), .int .i64 t, .int .i64 u, .int .i64 x] w (TrPost w0 w L M f (f.step L t u x) (f.did L t u x).rval) := by
  obtain ⟨bk, so, cap, dv, hr⟩ := h.ref
  have h8 := hI.n8
  obtain ⟨W, ho⟩ := hI.ord
  have hin : MmIn w M bk so cap dv f L := mm_in h.ls.lk h.ml hr ho hI.n1 (by have := hI.hD; omega) hI.hws h.bs.2 hI.ha hI.l1 hI.l2
  exact (mm_step hin t u x).mono fun e w' k => ⟨k.1, h.rstep hr k⟩
theorem tw_seats (h : Duo w0 w L M f f') : Calls Tryz.prog 114 #[.pointer (some ⟨M.r, 0, none⟩)] w fun e w' => e = .returned (.pointer (some ⟨M.sr, 0, none⟩)) ∧ w = w' := by
  obtain ⟨mi, h1, _⟩ := h.ml.raw
  exact ml_seats h1
end
end Go.Proofs.YtdhpmcafekpfhaaGreat
namespace Go.Proofs.YtdhpmcafekpfhaaGreat
open Go.RowKit Go.BigFrame
set_option linter.unusedVariables false
set_option maxRecDepth 100000

def DidPost (w : World) (d : Dd) (e : Ending) (w' : World) : Prop := e = .returned d.rval ∧ Wrote Nil w w'
theorem three_1 (w : World) (A B C : Obj) : (((w.alloc A).alloc B).alloc C).heap[w.heap.size + 1]? = some B := by
  rw [Go.Deep.blk_alloc_lt _ _ _ (by rw [Go.Deep.nblk_alloc, Go.Deep.nblk_alloc]; omega), two_1]
set_option maxHeartbeats 2000000 in
theorem did_any (w : World) (ev : Int) (enq arr lead : Bool) : Calls Tryz.prog 45 #[.agg #[.int .i64 ev, .bool enq, .bool arr, .bool lead]] w (DidPost w ⟨ev, enq, arr, lead⟩) := by
  cases enq <;> cases arr <;> cases lead
  all_goals
    go_enter Tryz.func45, Tryz.ntmps45
    go_wp2
    exact bodyPost_ret (results_cell_row rfl _ _ (w.heap.size + 1) 109 _ (0, 0) _ rfl (three_1 w _ _ _) Tryz.underlying109 rfl i_rid) rfl ⟨rfl, (((Wrote.refl _ w).alloc _).alloc _).alloc _⟩

end Go.Proofs.YtdhpmcafekpfhaaGreat
namespace Go.Proofs.YtdhpmcafekpfhaaGreat
open Go.RowKit Go.BigFrame
set_option linter.unusedVariables false
set_option maxRecDepth 100000

def opF (f : FL) (L : Lp) (K t N x : Int) : FL := if K = 1 then f.lock t N else if K = 2 then f.turn t 3 else if K = 3 then f.probe t else if K = 4 then f.step L t t x else f
def TdPost (w0 w : World) (L : Lp) (M : Mp) (g : FL) (e : Ending) (w' : World) : Prop := e = .returned (.bool true) ∧ Duo w0 w' L M g g ∧ KpO M.base w w'
set_option maxHeartbeats 8000000 in
theorem td_any {w0 w : World} {L : Lp} {M : Mp} {f : FL} (h : Duo w0 w L M f f) (hI : TwIn L M f) (K t N la nw : Int) :
    Calls Tryz.prog 23 #[.iface 26 (.pointer (some ⟨L.lb, 0, none⟩)), .iface 37 (.pointer (some ⟨M.r, 0, none⟩)), .pointer (some ⟨M.pr, 0, none⟩), .agg #[.int .i64 K, .int .i64 t, .int .i64 N, .int .i64 la], .int .i64 nw] w (TdPost w0 w L M (opF f L K t N nw)) := by
  obtain ⟨Z, hZ⟩ : ∃ Z, Z = w.alloc (.cells #[.int .i64 K, .int .i64 t, .int .i64 N, .int .i64 la] 70) := ⟨_, rfl⟩
  have hW0 : Wrote Nil w Z := by rw [hZ]; exact (Wrote.refl _ w).alloc _
  have hT := h.after hW0
  have hk0 : KpO M.base w Z := KpO.nil hW0
  have hB : Z.heap[w.heap.size]? = some (.cells #[.int .i64 K, .int .i64 t, .int .i64 N, .int .i64 la] 70 (0, 0)) := by rw [hZ]; exact Go.Deep.blk_alloc_new w _
  obtain ⟨B, hBe⟩ : ∃ B, B = w.heap.size := ⟨_, rfl⟩
  have hBb : M.base ≤ B := by rw [hBe]; exact h.bs.2
  rw [← hBe] at hB
  have n8 := hI.n8
  have n1 := hI.n1
  have x1 : Z.drew.cell? ⟨B, 1, none⟩ = some (.int .i64 t) := (blk_cell hB 1).trans rfl
  have x2 : Z.drew.cell? ⟨B, 2, none⟩ = some (.int .i64 N) := (blk_cell hB 2).trans rfl
  have x0 : Z.cell? ⟨B, 0, none⟩ = some (.int .i64 K) := (blk_cell hB 0).trans rfl
  have cS := tw_seats hT
  have mS := via_rseats ⟨M.r, 0, none⟩
  have cl := hT.ls.cell0
  have kd : KpO M.base Z Z.drew := KpO.nil ((Wrote.refl Nil Z).drew)
  have HZ := Lib.hid (And.intro hZ (And.intro hBe (And.intro hT (And.intro hk0 (And.intro hB (And.intro hBb hI))))))
  have ob : ∀ W : World, KpO M.base Z W → W.cell? ⟨B, 1, none⟩ = some (.int .i64 t) ∧ W.cell? ⟨B, 2, none⟩ = some (.int .i64 N) := fun W k => by
    have := k B _ HZ.out.2.2.2.2.2.1 HZ.out.2.2.2.2.1
    exact ⟨(blk_cell this 1).trans rfl, (blk_cell this 2).trans rfl⟩
  have OB := Lib.hid ob
  have HKD := Lib.hid kd
  clear ob hT hk0 hB hBb hI h hW0 hZ hBe kd
  by_cases hK1 : K = 1
  · subst hK1
    have e0 : opF f L 1 t N nw = f.lock t N := rfl
    rw [e0]
    have HC := Lib.hid (And.intro (tw_rlock (HZ.out.2.2.1.drew) n1 (by omega) t N) (And.intro (tw_lock HZ.out.2.2.1.drew t N) (And.intro (fun W (h : Duo w0 W L M f (f.lock t N)) => tw_lock h t N) (fun W (h : Duo w0 W L M (f.lock t N) f) => tw_rlock h n1 (by omega) t N))))
    have mL := fun W h => via_lock L.lb ⟨L.p, 0, none⟩ W h
    have hdr : Z.drew.cell? ⟨L.lb, 0, none⟩ = some (.pointer (some ⟨L.p, 0, none⟩)) := cl
    go_enter Tryz.func23, Tryz.ntmps23
    go_wp2_with (go_at_call 114; rw [← HZ.out.1, ← HZ.out.2.1]; with_reducible refine cS.mono ?_; rintro e w1 ⟨rfl, rfl⟩)
    go_region_held3 (fun w' => w'.cell? ⟨B, 1, none⟩ = some (.int .i64 t) ∧ w'.cell? ⟨B, 2, none⟩ = some (.int .i64 N) ∧ w'.cell? ⟨L.lb, 0, none⟩ = some (.pointer (some ⟨L.p, 0, none⟩))) (first | exact ⟨x1, x2, hdr⟩ | exact ⟨d1, d2, dl⟩ | exact ⟨g1, g2, gl⟩)
      (first
        | (go_at_call 43; (with_reducible refine HC.out.1.mono ?_); intro e wA hq; unfold TrPost at hq; obtain ⟨rfl, hA, kA⟩ := hq; obtain ⟨d1, d2⟩ := OB.out _ (HKD.out.trans kA); have dl := hA.ls.cell0; have HAK := Lib.hid kA; clear kA)
        | (go_at_call 13; (with_reducible refine HC.out.2.1.mono ?_); intro e wB hq; unfold TmPost at hq; obtain ⟨rfl, hBB, _, kB⟩ := hq; obtain ⟨d1, d2⟩ := OB.out _ (HKD.out.trans kB); have dl := hBB.ls.cell0; have HBK := Lib.hid kB; clear kB)
        | (go_at_call 13; (with_reducible refine (HC.out.2.2.1 _ hA).mono ?_); intro e wF hq; unfold TmPost at hq; obtain ⟨rfl, hF, _, kF⟩ := hq; obtain ⟨g1, g2⟩ := OB.out _ ((HKD.out.trans HAK.out).trans kF); have gl := hF.ls.cell0; have HFK := Lib.hid (HAK.out.trans kF); clear kF)
        | (go_at_call 43; (with_reducible refine (HC.out.2.2.2 _ hBB).mono ?_); intro e wF hq; unfold TrPost at hq; obtain ⟨rfl, hF, kF⟩ := hq; obtain ⟨g1, g2⟩ := OB.out _ ((HKD.out.trans HBK.out).trans kF); have gl := hF.ls.cell0; have HFK := Lib.hid (HBK.out.trans kF); clear kF))
    all_goals
      go_wp2
      go_ret
      exact ⟨by simp, hF, (HZ.out.2.2.2.1.trans HKD.out).trans HFK.out⟩
  have k1 : (K == 1) = false := beq_false_of_ne hK1
  by_cases hK2 : K = 2
  · subst hK2
    have e0 : opF f L 2 t N nw = f.turn t 3 := rfl
    rw [e0]
    have HC := Lib.hid (And.intro (tw_runlock (HZ.out.2.2.1.drew) n1 (by omega) t) (And.intro (tw_unlock HZ.out.2.2.1.drew t) (And.intro (fun W (h : Duo w0 W L M f (f.turn t 3)) => tw_unlock h t) (fun W (h : Duo w0 W L M (f.turn t 3) f) => tw_runlock h n1 (by omega) t))))
    have mL := fun W h => via_unlock L.lb ⟨L.p, 0, none⟩ W h
    have hdr : Z.drew.cell? ⟨L.lb, 0, none⟩ = some (.pointer (some ⟨L.p, 0, none⟩)) := cl
    go_enter Tryz.func23, Tryz.ntmps23
    go_wp2_with (go_at_call 114; rw [← HZ.out.1, ← HZ.out.2.1]; with_reducible refine cS.mono ?_; rintro e w1 ⟨rfl, rfl⟩)
    go_region_held3 (fun w' => w'.cell? ⟨B, 1, none⟩ = some (.int .i64 t) ∧ w'.cell? ⟨L.lb, 0, none⟩ = some (.pointer (some ⟨L.p, 0, none⟩))) (first | exact ⟨x1, hdr⟩ | exact ⟨d1, dl⟩ | exact ⟨g1, gl⟩)
      (first
        | (go_at_call 44; (with_reducible refine HC.out.1.mono ?_); intro e wA hq; unfold TrPost at hq; obtain ⟨rfl, hA, kA⟩ := hq; obtain ⟨d1, d2⟩ := OB.out _ (HKD.out.trans kA); have dl := hA.ls.cell0; have HAK := Lib.hid kA; clear kA)
        | (go_at_call 111; (with_reducible refine HC.out.2.1.mono ?_); intro e wB hq; unfold TmPost at hq; obtain ⟨rfl, hBB, _, kB⟩ := hq; obtain ⟨d1, d2⟩ := OB.out _ (HKD.out.trans kB); have dl := hBB.ls.cell0; have HBK := Lib.hid kB; clear kB)
        | (go_at_call 111; (with_reducible refine (HC.out.2.2.1 _ hA).mono ?_); intro e wF hq; unfold TmPost at hq; obtain ⟨rfl, hF, _, kF⟩ := hq; obtain ⟨g1, g2⟩ := OB.out _ ((HKD.out.trans HAK.out).trans kF); have gl := hF.ls.cell0; have HFK := Lib.hid (HAK.out.trans kF); clear kF)
        | (go_at_call 44; (with_reducible refine (HC.out.2.2.2 _ hBB).mono ?_); intro e wF hq; unfold TrPost at hq; obtain ⟨rfl, hF, kF⟩ := hq; obtain ⟨g1, g2⟩ := OB.out _ ((HKD.out.trans HBK.out).trans kF); have gl := hF.ls.cell0; have HFK := Lib.hid (HBK.out.trans kF); clear kF))
    all_goals
      go_wp2
      go_ret
      exact ⟨by simp, hF, (HZ.out.2.2.2.1.trans HKD.out).trans HFK.out⟩
  have k2 : (K == 2) = false := beq_false_of_ne hK2
  by_cases hK3 : K = 3
  · subst hK3
    have e0 : opF f L 3 t N nw = f.probe t := rfl
    rw [e0]
    have HC := Lib.hid (And.intro (tw_rprobe (HZ.out.2.2.1.drew) n1 (by omega) t) (And.intro (tw_probe HZ.out.2.2.1.drew t) (And.intro (fun W (h : Duo w0 W L M f (f.probe t)) => tw_probe h t) (fun W (h : Duo w0 W L M (f.probe t) f) => tw_rprobe h n1 (by omega) t))))
    have mL := fun W h => via_probe L.lb ⟨L.p, 0, none⟩ W h
    have hdr : Z.drew.cell? ⟨L.lb, 0, none⟩ = some (.pointer (some ⟨L.p, 0, none⟩)) := cl
    go_enter Tryz.func23, Tryz.ntmps23
    go_wp2_with (go_at_call 114; rw [← HZ.out.1, ← HZ.out.2.1]; with_reducible refine cS.mono ?_; rintro e w1 ⟨rfl, rfl⟩)
    go_region_held3 (fun w' => w'.cell? ⟨B, 1, none⟩ = some (.int .i64 t) ∧ w'.cell? ⟨L.lb, 0, none⟩ = some (.pointer (some ⟨L.p, 0, none⟩))) (first | exact ⟨x1, hdr⟩ | exact ⟨d1, dl⟩ | exact ⟨g1, gl⟩)
      (first
        | (go_at_call 44; (with_reducible refine HC.out.1.mono ?_); intro e wA hq; unfold TrPost at hq; obtain ⟨rfl, hA, kA⟩ := hq; obtain ⟨d1, d2⟩ := OB.out _ (HKD.out.trans kA); have dl := hA.ls.cell0; have HAK := Lib.hid kA; clear kA)
        | (go_at_call 110; (with_reducible refine HC.out.2.1.mono ?_); intro e wB hq; unfold TmPost at hq; obtain ⟨rfl, hBB, _, kB⟩ := hq; obtain ⟨d1, d2⟩ := OB.out _ (HKD.out.trans kB); have dl := hBB.ls.cell0; have HBK := Lib.hid kB; clear kB)
        | (go_at_call 110; (with_reducible refine (HC.out.2.2.1 _ hA).mono ?_); intro e wF hq; unfold TmPost at hq; obtain ⟨rfl, hF, _, kF⟩ := hq; obtain ⟨g1, g2⟩ := OB.out _ ((HKD.out.trans HAK.out).trans kF); have gl := hF.ls.cell0; have HFK := Lib.hid (HAK.out.trans kF); clear kF)
        | (go_at_call 44; (with_reducible refine (HC.out.2.2.2 _ hBB).mono ?_); intro e wF hq; unfold TrPost at hq; obtain ⟨rfl, hF, kF⟩ := hq; obtain ⟨g1, g2⟩ := OB.out _ ((HKD.out.trans HBK.out).trans kF); have gl := hF.ls.cell0; have HFK := Lib.hid (HBK.out.trans kF); clear kF))
    all_goals
      go_wp2
      go_ret
      exact ⟨by simp, hF, (HZ.out.2.2.2.1.trans HKD.out).trans HFK.out⟩
  have k3 : (K == 3) = false := beq_false_of_ne hK3
  by_cases hK4 : K = 4
  · subst hK4
    have e0 : opF f L 4 t N nw = f.step L t t nw := rfl
    rw [e0]
    obtain ⟨⟨ev, enq, arr, lead⟩, hd⟩ : ∃ d, f.did L t t nw = d := ⟨_, rfl⟩
    have cR := tw_rstep HZ.out.2.2.1 HZ.out.2.2.2.2.2.2 t t nw
    have hDl : f.ps.D.length < 4611686018427387904 := by have := HZ.out.2.2.2.2.2.2.hD; omega
    have cM := fun W (h : Duo w0 W L M f (f.step L t t nw)) => tw_step h t t nw hDl
    rw [hd] at cR
    simp only [hd] at cM
    have HCM := Lib.hid cM
    clear hd cM hDl
    have mR := via_rstep ⟨M.r, 0, none⟩
    have mM := via_step ⟨L.lb, 0, none⟩
    have y1 : Z.cell? ⟨B, 1, none⟩ = some (.int .i64 t) := (OB.out Z (fun C cs hC x => x)).1
    go_enter Tryz.func23, Tryz.ntmps23
    go_wp2_with (first
      | (go_at_call 114; rw [← HZ.out.1, ← HZ.out.2.1]; (with_reducible refine cS.mono ?_); rintro e w1 ⟨rfl, rfl⟩)
      | (go_at_call 115; (with_reducible refine cR.mono ?_); intro e wA hq; unfold TrPost at hq; obtain ⟨rfl, hA, kA⟩ := hq; dsimp only [Dd.rval]; have HAA := Lib.hid (And.intro hA kA); clear hA kA cR))
    obtain ⟨Y, hY⟩ : ∃ Y, Y = wA.alloc (.cells #[.int .i64 ev, .int .i64 (b2i enq), .int .i64 (b2i arr), .int .i64 (b2i lead)] 109) := ⟨_, rfl⟩
    obtain ⟨C, hC⟩ : ∃ C, C = wA.heap.size := ⟨_, rfl⟩
    have hYb : Y.heap[C]? = some (.cells #[.int .i64 ev, .int .i64 (b2i enq), .int .i64 (b2i arr), .int .i64 (b2i lead)] 109 (0, 0)) := by rw [hY, hC]; exact Go.Deep.blk_alloc_new wA _
    have hkY : Wrote Nil wA Y := by rw [hY]; exact (Wrote.refl _ _).alloc _
    have hDY : Duo w0 Y.drew L M f (f.step L t t nw) := (HAA.out.1.after hkY).drew
    have kY : KpO M.base Z Y.drew := HAA.out.2.trans (KpO.nil (hkY.drew))
    have hCk : L.q.k3 ≤ C := by rw [hC]; exact Nat.le_trans HAA.out.1.bs.1 HAA.out.1.bs.2
    rw [← hY, ← hC]
    clear hY hC hkY
    have u1 : Y.drew.cell? ⟨B, 1, none⟩ = some (.int .i64 t) := (OB.out _ kY).1
    have c0 : Y.drew.cell? ⟨C, 0, none⟩ = some (.int .i64 ev) := (blk_cell hYb 0).trans rfl
    have c1 : Y.drew.cell? ⟨C, 1, none⟩ = some (.int .i64 (b2i enq)) := (blk_cell hYb 1).trans rfl
    have c2 : Y.drew.cell? ⟨C, 2, none⟩ = some (.int .i64 (b2i arr)) := (blk_cell hYb 2).trans rfl
    have c3 : Y.drew.cell? ⟨C, 3, none⟩ = some (.int .i64 (b2i lead)) := (blk_cell hYb 3).trans rfl
    have HY := Lib.hid (And.intro hDY (And.intro kY (And.intro hCk hYb)))
    have cM := HCM.out _ hDY
    clear hDY kY hCk hYb
    go_region_held3 (fun w' => w'.cell? ⟨B, 1, none⟩ = some (.int .i64 t) ∧ w'.cell? ⟨C, 0, none⟩ = some (.int .i64 ev) ∧ w'.cell? ⟨C, 1, none⟩ = some (.int .i64 (b2i enq)) ∧ w'.cell? ⟨C, 2, none⟩ = some (.int .i64 (b2i arr)) ∧ w'.cell? ⟨C, 3, none⟩ = some (.int .i64 (b2i lead))) (first | exact ⟨u1, c0, c1, c2, c3⟩ | exact ⟨d1, q0, q1, q2, q3⟩ | exact ⟨g1, r0, r1, r2, r3⟩)
      (first
        | (go_at_call 14; (with_reducible refine cM.mono ?_); intro e w3 hq; unfold TmPost at hq; obtain ⟨rfl, hM3, hW3, k3⟩ := hq; dsimp only [Dd.val]; have d1 := (OB.out _ (HY.out.2.1.trans k3)).1; have hCn : ¬ Low L C := (fun e => by have := HY.out.2.2.1; unfold Low at e; omega); have q0 := hW3.cell c0 hCn; have q1 := hW3.cell c1 hCn; have q2 := hW3.cell c2 hCn; have q3 := hW3.cell c3 hCn; have HM3 := Lib.hid (And.intro hM3 k3); clear hM3 hW3 k3)
        | (go_at_call 45; (with_reducible refine (did_any _ ev enq arr lead).mono ?_); intro e w4 hq; unfold DidPost at hq; obtain ⟨rfl, hW4⟩ := hq; dsimp only [Dd.rval]; have g1 := hW4.old d1; have r0 := hW4.old q0; have r1 := hW4.old q1; have r2 := hW4.old q2; have r3 := hW4.old q3; have HW4 := Lib.hid hW4; clear hW4))
    all_goals
      go_wp2
      go_ret
      exact ⟨by simp, HM3.out.1.after HW4.out, ((HZ.out.2.2.2.1.trans HY.out.2.1).trans HM3.out.2).trans (KpO.nil HW4.out)⟩
  · have k4 : (K == 4) = false := beq_false_of_ne hK4
    have e0 : opF f L K t N nw = f := by unfold opF; rw [if_neg hK1, if_neg hK2, if_neg hK3, if_neg hK4]
    rw [e0]
    clear e0 hK1 hK2 hK3 hK4
    go_enter Tryz.func23, Tryz.ntmps23
    go_wp2_with (go_at_call 114; rw [← HZ.out.1, ← HZ.out.2.1]; with_reducible refine cS.mono ?_; rintro e w1 ⟨rfl, rfl⟩)
    go_ret
    exact ⟨rfl, HZ.out.2.2.1, HZ.out.2.2.2.1⟩
end Go.Proofs.YtdhpmcafekpfhaaGreat
namespace Go.Proofs.YtdhpmcafekpfhaaGreat
open Go.RowKit Go.BigFrame
set_option linter.unusedVariables false
set_option maxRecDepth 100000

/-! ### how many accesses a call has -/
theorem acc_op (f : FL) (L : Lp) (K t N x : Int) : cntI (opF f L K t N x).ps.ac t ≤ cntI f.ps.ac t + 1 ∧ (K ≠ 4 → cntI (opF f L K t N x).ps.ac t = cntI f.ps.ac t) := by
  unfold opF
  repeat' split
  · exact ⟨by show cntI f.ps.ac t ≤ _; omega, fun _ => rfl⟩
  · exact ⟨by show cntI f.ps.ac t ≤ _; omega, fun _ => rfl⟩
  · exact ⟨by rw [show (f.probe t).ps = f.ps from rfl]; omega, fun _ => rfl⟩
  · rename_i h4
    exact ⟨(acc_mid f L t x).1, fun e => absurd h4 e⟩
  · exact ⟨by omega, fun _ => rfl⟩
theorem cntI_rng {w : World} {q : Place} {hs : List Int} {s : PSta} (h : PortAt w q hs s) (t : Int) : 0 ≤ cntI s.ac t ∧ cntI s.ac t ≤ s.D.length := by
  have := getD_le h.rngA t.toNat
  unfold cntI
  split <;> omega
theorem op_ord {f : FL} {W : List Nat} {L : Lp} (h : OrdI f W) (h1 : L.a1 = 0) (h2 : L.a2 = 1) (K t N x : Int) : ∃ W', OrdI (opF f L K t N x) W' ∧ (opF f L K t N x).ps.D.length ≤ f.ps.D.length + 1 ∧ (opF f L K t N x).s.n = f.s.n := by
  unfold opF
  repeat' split
  · exact ⟨W, h.lock t N, Nat.le_succ _, SS.lock_n _ _ _⟩
  · exact ⟨W, h.unlock t, Nat.le_succ _, SS.turn_n _ _ _⟩
  · exact ⟨W, h.probe t, Nat.le_succ _, SS.probe_n _ _⟩
  · obtain ⟨W', a, b, _⟩ := h.step h1 h2 t x
    exact ⟨W', a, b, SS.fin_n _ _ _⟩
  · exact ⟨W, h, Nat.le_succ _, rfl⟩
theorem ord_in {f : FL} {W : List Nat} {L : Lp} {M : Mp} (h : OrdI f W) (n1 : 1 ≤ f.s.n) (hD : f.ps.D.length ≤ 1000) (ha : M.a = 0) (h1 : L.a1 = 0) (h2 : L.a2 = 1) : TwIn L M f := by
  exact ⟨n1, ⟨W, h⟩, by omega, h.lenW, ha, h1, h2⟩

/-- between two calls -/
def PlSt (w0 wr : World) (L : Lp) (M : Mp) (n k : Nat) (v : Value) : Prop := ∃ (nw : Int) (f : FL) (W : List Nat), v = .int .i64 nw ∧ (0 ≤ nw ∧ nw ≤ 1000 * (k : Int)) ∧ Duo w0 wr L M f f ∧ OrdI f W ∧ f.s.n = n ∧ f.ps.D.length ≤ k
/-- a lock and the reference's, before the lock is used -/
structure DuoP (w0 w : World) (L : Lp) (M : Mp) (f : FL) : Prop where
  lp : LkS w0 w L f
  ml : MlAt w M f
  ref : RefSt w M.base M.pr f.ps
  lo : L.q.k3 ≤ M.r ∧ ∀ k, MF M k → L.q.k3 ≤ k
  hi : M.r < M.base ∧ ∀ k, MF M k → k < M.base
  bs : L.q.k3 ≤ M.base ∧ M.base ≤ w.heap.size
theorem DuoP.use {w0 w w' : World} {L : Lp} {M : Mp} {f : FL} (h : DuoP w0 w L M f) (hl : LkS w0 w' L f) (k : Wrote (Low L) w w') : Duo w0 w' L M f f := by
  obtain ⟨bk, so, cap, dv, hr⟩ := h.ref
  have hlo := h.lo
  have hb := h.bs.1
  refine ⟨hl, h.ml.apart k (fun e => by unfold Low at e; omega) (fun j hj e => by have := hlo.2 j hj; unfold Low at e; omega), ⟨bk, so, cap, dv, hr.after k fun b hb e => by unfold Low at e; omega⟩, h.lo, h.hi, h.bs.1, Nat.le_trans h.bs.2 k.size⟩

/-- behind all of it -/
def PlaysPost (w0 : World) (L : Lp) (M : Mp) (n : Nat) (e : Ending) (w' : World) : Prop := e = .returned (.bool true) ∧ ∃ (f : FL) (W : List Nat), Duo w0 w' L M f f ∧ OrdI f W ∧ f.s.n = n
theorem PlaysPost.wr {w0 w' : World} {L : Lp} {M : Mp} {n : Nat} {e : Ending} (h : PlaysPost w0 L M n e w') : Wrote Nil w0 w' := by obtain ⟨_, f, W, h, _⟩ := h; exact h.ls.wr
set_option maxHeartbeats 8000000 in
theorem plays_any {w0 w : World} {L : Lp} {M : Mp} {f : FL} (h : DuoP w0 w L M f) (hO : OrdI f []) (ha : M.a = 0) (h1 : L.a1 = 0) (h2 : L.a2 = 1) (n1 : 1 ≤ f.s.n) (hD : f.ps.D.length = 0) {so : Option Addr} {m cap : Nat} {z : Nat → Nat → Int} (hat : OpsAt w0 so m z) (hm : m ≤ 150) :
    Calls Tryz.prog 9 #[.iface 26 (.pointer (some ⟨L.lb, 0, none⟩)), .pointer (some ⟨L.q.p, 0, none⟩), .iface 37 (.pointer (some ⟨M.r, 0, none⟩)), .pointer (some ⟨M.pr, 0, none⟩), .slice so m cap] w (PlaysPost w0 L M f.s.n) := by
  have m0 := via_use ⟨L.lb, 0, none⟩
  have mS := via_rseats ⟨M.r, 0, none⟩
  obtain ⟨n, hn⟩ : ∃ n, n = f.s.n := ⟨_, rfl⟩
  have n8 : n ≤ 8 := by rw [hn]; exact hO.n8
  rw [← hn] at n1 ⊢
  have HA := Lib.hid (And.intro hat (And.intro ha (And.intro h1 h2)))
  have HI := Lib.hid (And.intro h (And.intro hO (And.intro hD hn)))
  have cU := ls_use h.lp
  clear hat ha h1 h2 h hO hD hn
  go_enter Tryz.func9, Tryz.ntmps9
  go_wp2_with (go_at_call 20; (with_reducible refine cU.mono ?_); rintro e w1 ⟨rfl, hL, hWU⟩; have HL := Lib.hid (HI.out.1.use hL hWU); clear hL hWU)
  clear m0 cU
  go_loopw [11, 22] (fun v11 i wr => ∃ k : Nat, k ≤ m ∧ i = .int .i64 k ∧ PlSt w0 wr L M n k v11) (fun _ i _ => m - (intOf i).toNat)
  case atStart => exact ⟨0, Nat.zero_le _, rfl, 0, f, [], rfl, ⟨Int.le_refl _, by omega⟩, HL.out, HI.out.2.1, HI.out.2.2.2.symm, by rw [HI.out.2.2.1]; exact Nat.le_refl _⟩
  case round =>
    clear HL HI
    obtain ⟨k, hk, rfl, hst⟩ := hrel
    unfold PlSt at hst
    obtain ⟨nw, f, W, rfl, ⟨nw0, nw1⟩, hT, hO, hfn, hD⟩ := hst
    by_cases hlt : k < m
    · rcases HA.out.1 with e0 | ⟨gb, go, rfl, hcell⟩
      · omega
      have y0 : wr.cell? ⟨gb, go + k * 4, none⟩ = some (.int .i64 (z k 0)) := hT.ls.wr.old (hcell k hlt 0 (by decide))
      have y1 : wr.cell? ⟨gb, go + k * 4 + 1, none⟩ = some (.int .i64 (z k 1)) := hT.ls.wr.old (hcell k hlt 1 (by decide))
      have y2 : wr.cell? ⟨gb, go + k * 4 + 2, none⟩ = some (.int .i64 (z k 2)) := hT.ls.wr.old (hcell k hlt 2 (by decide))
      have y3 : wr.cell? ⟨gb, go + k * 4 + 3, none⟩ = some (.int .i64 (z k 3)) := hT.ls.wr.old (hcell k hlt 3 (by decide))
      generalize z k 0 = K at y0
      generalize z k 1 = t at y1
      generalize z k 2 = N at y2
      generalize z k 3 = la at y3
      clear hcell
      obtain ⟨X, hX⟩ : ∃ X, X = wr.alloc (.cells #[.int .i64 K, .int .i64 t, .int .i64 N, .int .i64 la] 70) := ⟨_, rfl⟩
      have hTX : Duo w0 X L M f f := by rw [hX]; exact hT.after ((Wrote.refl _ _).alloc _)
      have hB : X.heap[wr.heap.size]? = some (.cells #[.int .i64 K, .int .i64 t, .int .i64 N, .int .i64 la] 70 (0, 0)) := by rw [hX]; exact Go.Deep.blk_alloc_new wr _
      have hBb : M.base ≤ wr.heap.size := hT.bs.2
      obtain ⟨W', hO', hD', hn'⟩ := op_ord hO HA.out.2.2.1 HA.out.2.2.2 K t N (nw + min (max la 0) 1000)
      obtain ⟨hac1, hac2⟩ := acc_op f L K t N (nw + min (max la 0) 1000)
      obtain ⟨ha0, ha1⟩ := cntI_rng hT.ls.lk.port t
      have hin : TwIn L M f := ord_in hO (by omega) (by omega) HA.out.2.1 HA.out.2.2.1 HA.out.2.2.2
      have hbnd : 0 ≤ nw + min (max la 0) 1000 ∧ nw + min (max la 0) 1000 ≤ 1000 * ((k + 1 : Nat) : Int) := by omega
      have cA := paccesses_any hTX.ls.lk.port t
      obtain ⟨g, hg⟩ : ∃ g, g = opF f L K t N (nw + min (max la 0) 1000) := ⟨_, rfl⟩
      rw [← hg] at hO' hD' hn' hac1 hac2
      obtain ⟨c0, hc0⟩ : ∃ c0, c0 = cntI f.ps.ac t := ⟨_, rfl⟩
      obtain ⟨c1, hc1⟩ : ∃ c1, c1 = cntI g.ps.ac t := ⟨_, rfl⟩
      rw [← hc0] at cA ha0 ha1 hac1 hac2
      rw [← hc1] at hac1 hac2
      have hgt : ¬ (c0 + 1 < c1) := by omega
      have hc150 : c0 ≤ 150 := by omega
      have cD := td_any hTX hin K t N la (nw + min (max la 0) 1000)
      rw [← hg] at cD
      have HX := Lib.hid (And.intro hX (And.intro hTX (And.intro hB (And.intro hBb (And.intro hO' (And.intro (show g.ps.D.length ≤ k + 1 by omega) (And.intro (hn'.trans hfn) (And.intro hc1 hc0))))))))
      have HBN := Lib.hid hbnd
      have x1 : (wr.alloc (.cells #[.int .i64 K, .int .i64 t, .int .i64 N, .int .i64 la] 70)).cell? ⟨wr.heap.size, 1, none⟩ = some (.int .i64 t) := by rw [← hX, blk_cell hB]; rfl
      have z0 : X.cell? ⟨wr.heap.size, 0, none⟩ = some (.int .i64 K) := (blk_cell hB 0).trans rfl
      have z1 : X.cell? ⟨wr.heap.size, 1, none⟩ = some (.int .i64 t) := (blk_cell hB 1).trans rfl
      have z2 : X.cell? ⟨wr.heap.size, 2, none⟩ = some (.int .i64 N) := (blk_cell hB 2).trans rfl
      have z3 : X.cell? ⟨wr.heap.size, 3, none⟩ = some (.int .i64 la) := (blk_cell hB 3).trans rfl
      clear hT hO hfn hD hX hTX hB hBb hO' hD' hn' hin hbnd hg hc0 hc1 ha1 hac1
      have hEK : (K = 4) ∨ ((K != 4) = true ∧ c1 = c0) := by
        by_cases hK4 : K = 4
        · exact .inl hK4
        · exact .inr ⟨by simpa using hK4, hac2 hK4⟩
      clear hac2
      rcases hEK with rfl | ⟨bK, rfl⟩
      all_goals
        go_wp2_with (first
          | (go_at_call 22; rw [← HX.out.1]; (with_reducible refine cA.mono ?_); rintro e w2 ⟨rfl, rfl⟩)
          | (go_at_call 23; (with_reducible refine cD.mono ?_); intro e w3 hq; unfold TdPost at hq; obtain ⟨rfl, hD3, k3⟩ := hq; have b3 := k3 _ _ HX.out.2.2.2.1 HX.out.2.2.1; have u0 := (blk_cell b3 0).trans rfl; have u1 := (blk_cell b3 1).trans rfl; have cA2 := paccesses_any hD3.ls.lk.port t; rw [← HX.out.2.2.2.2.2.2.2.1] at cA2; have cSm := same_any hD3.ls.lk.port hD3.ref; have H3 := Lib.hid hD3; clear hD3 k3 b3)
          | (go_at_call 22; (with_reducible refine cA2.mono ?_); rintro e w2 ⟨rfl, rfl⟩)
          | (go_at_call 24; (with_reducible refine cSm.mono ?_); intro e w4 hq; unfold SamePost at hq; obtain ⟨rfl, hW4⟩ := hq; have hD4 := H3.out.after hW4; have mL := via_len L.lb ⟨L.p, 0, none⟩ w4 hD4.ls.cell0; have mSt := via_state L.lb ⟨L.p, 0, none⟩ w4 hD4.ls.cell0; have cL := ls_len hD4.ls; have cSe := tw_seats hD4; have cSt := (fun tv => ls_state hD4.ls tv); have H4 := Lib.hid hD4; clear hD4 hW4))
        obtain ⟨mi, hraw, _⟩ := H4.out.ml.raw
        have hgn : g.s.n = n := HX.out.2.2.2.2.2.2.1
        obtain ⟨gs, cg, hgv, hgs⟩ := SrAt.stV hraw.seat (by omega)
        have s0 := SrAt.cell0 hraw.seat
        rw [hgv] at s0
        rw [hgn] at cL s0
        have HGS : Hid (∀ i : Nat, i < n → w4.cell? ⟨gs, i, none⟩ = some (.int .i64 (g.s.st i))) := Lib.hid fun i hi => (hgs i _ (stL_at g.s (by omega))).1
        have HGN := Lib.hid hgn
        clear hraw hgv hgs hgn cA cA2 cD cSm u0 u1
        go_loopw [15] (fun v15 wx => wx = w4 ∧ ∃ tv : Int, (-1 ≤ tv ∧ tv ≤ (n : Int) + 1) ∧ v15 = .int .i64 tv) (fun v15 _ => ((n : Int) + 1 - intOf v15).toNat)
        case atStart => exact ⟨rfl, -1, by omega, rfl⟩
        case round =>
          obtain ⟨rfl, tv, ⟨tv0, tv1⟩, rfl⟩ := hrel
          have cT := cSt tv
          by_cases hin : tv ≤ (n : Int)
          · by_cases h0 : 0 ≤ tv
            · by_cases hlt2 : tv < (n : Int)
              · obtain ⟨i, rfl⟩ := Int.eq_ofNat_of_zero_le h0
                have eS : g.s.stI (i : Int) = g.s.st i := by unfold SS.stI; rw [if_pos (by have := HGN.out; omega), Int.toNat_natCast]
                rw [eS] at cT
                have ci := HGS.out i (by omega)
                generalize g.s.st i = sx at cT ci
                clear eS cSt
                go_wp2_with (first
                  | (go_at_call 109; (with_reducible refine cL.mono ?_); rintro e w5 ⟨rfl, rfl⟩)
                  | (go_at_call 114; (with_reducible refine cSe.mono ?_); rintro e w5 ⟨rfl, rfl⟩)
                  | (go_at_call 15; (with_reducible refine cT.mono ?_); rintro e w5 ⟨rfl, rfl⟩))
                go_roundw
                case rel => exact ⟨by first | rfl | trivial, (i : Int) + 1, by omega, by first | rfl | go_num⟩
                case measure => simp [intOf]; omega
              · have eS : g.s.stI tv = 0 := if_neg (by have := HGN.out; omega)
                rw [eS] at cT
                clear eS cSt
                go_wp2_with (first
                  | (go_at_call 109; (with_reducible refine cL.mono ?_); rintro e w5 ⟨rfl, rfl⟩)
                  | (go_at_call 114; (with_reducible refine cSe.mono ?_); rintro e w5 ⟨rfl, rfl⟩)
                  | (go_at_call 15; (with_reducible refine cT.mono ?_); rintro e w5 ⟨rfl, rfl⟩))
                go_roundw
                case rel => exact ⟨by first | rfl | trivial, tv + 1, by omega, by first | rfl | go_num⟩
                case measure => simp [intOf]; omega
            · have eS : g.s.stI tv = 0 := if_neg (by omega)
              rw [eS] at cT
              clear eS cSt
              go_wp2_with (first
                | (go_at_call 109; (with_reducible refine cL.mono ?_); rintro e w5 ⟨rfl, rfl⟩)
                | (go_at_call 15; (with_reducible refine cT.mono ?_); rintro e w5 ⟨rfl, rfl⟩))
              go_roundw
              case rel => exact ⟨by first | rfl | trivial, tv + 1, by omega, by first | rfl | go_num⟩
              case measure => simp [intOf]; omega
          · clear cT cSt
            go_wp2_with (go_at_call 109; (with_reducible refine cL.mono ?_); rintro e w5 ⟨rfl, rfl⟩)
            go_roundw
            case rel => exact ⟨k + 1, by omega, by go_num, _, g, W', rfl, HBN.out, H4.out, HX.out.2.2.2.2.1, HGN.out, HX.out.2.2.2.2.2.1⟩
            case measure => simp [intOf]; omega
    · obtain rfl : k = m := by omega
      have mL := via_len L.lb ⟨L.p, 0, none⟩ wr hT.ls.cell0
      have cL := ls_len hT.ls
      have cS := tw_seats hT
      obtain ⟨mi, hraw, _⟩ := hT.ml.raw
      have s0 := SrAt.cell0 hraw.seat
      obtain ⟨gs, cg, hgv, _⟩ := SrAt.stV hraw.seat (by omega)
      rw [hgv] at s0
      rw [hfn] at cL s0
      have HT := Lib.hid (And.intro hT (And.intro hO hfn))
      clear hT hO hfn hD hraw hgv
      go_wp2_with (first
        | (go_at_call 109; (with_reducible refine cL.mono ?_); rintro e w3 ⟨rfl, rfl⟩)
        | (go_at_call 114; (with_reducible refine cS.mono ?_); rintro e w3 ⟨rfl, rfl⟩))
      go_ret
      exact ⟨by simp, f, W, HT.out.1, HT.out.2.1, HT.out.2.2⟩
end Go.Proofs.YtdhpmcafekpfhaaGreat
