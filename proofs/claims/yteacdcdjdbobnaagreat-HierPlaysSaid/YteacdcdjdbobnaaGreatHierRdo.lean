/- The reference's hierarchical lock amid a call; where its words lie. -/
import Derived.Test.YteacdcdjdbobnaaGreatHierRef
import Derived.Test.YteacdcdjdbobnaaGreatHierDo
import Derived.WalkLawsBesides
import Derived.Outline
import Derived.Deep.QuietTactic
import Derived.Deep.RegionHeld3
import Derived.BigQuiet
import Derived.BigFrame
import Derived.Handy
import Derived.OpenShut
import Derived.Lib.Walk
import Derived.WalkKit
import Derived.Lib.Hide
namespace Go.Proofs.YteacdcdjdbobnaaGreat
open Go.RowKit Go.BigFrame
set_option linter.unusedVariables false
set_option maxRecDepth 100000

theorem i_rid : (Tryz.prog.info? 105).map (·.size) = some 4 := by kernel_rfl
/-- a row's six numbers of context k -/
def vk (v : Nat → Nat → Int) (k : Nat) (a b c d g h : Int) : Nat → Nat → Int := fun i j => if j = k then (match i with | 0 => a | 1 => b | 2 => c | 3 => d | 4 => g | 5 => h | _ => v i j) else v i j
theorem vk_self (v : Nat → Nat → Int) (k : Nat) : vk v k (v 0 k) (v 1 k) (v 2 k) (v 3 k) (v 4 k) (v 5 k) = v := by
  funext i j
  unfold vk
  split
  · rename_i e; subst e; split <;> rfl
  · rfl
theorem vk_k (v : Nat → Nat → Int) (k : Nat) (a b c d g h : Int) : vk v k a b c d g h 0 k = a ∧ vk v k a b c d g h 1 k = b ∧ vk v k a b c d g h 2 k = c ∧ vk v k a b c d g h 3 k = d ∧ vk v k a b c d g h 4 k = g ∧ vk v k a b c d g h 5 k = h := by
  unfold vk; rw [if_pos rfl, if_pos rfl, if_pos rfl, if_pos rfl, if_pos rfl, if_pos rfl]; exact ⟨rfl, rfl, rfl, rfl, rfl, rfl⟩
theorem vk_set (v : Nat → Nat → Int) (k : Nat) (a b c d g h x : Int) :
    upd (vk v k a b c d g h) 0 (upd (vk v k a b c d g h 0) k x) = vk v k x b c d g h ∧ upd (vk v k a b c d g h) 1 (upd (vk v k a b c d g h 1) k x) = vk v k a x c d g h ∧ upd (vk v k a b c d g h) 2 (upd (vk v k a b c d g h 2) k x) = vk v k a b x d g h ∧ upd (vk v k a b c d g h) 3 (upd (vk v k a b c d g h 3) k x) = vk v k a b c x g h ∧ upd (vk v k a b c d g h) 4 (upd (vk v k a b c d g h 4) k x) = vk v k a b c d x h ∧ upd (vk v k a b c d g h) 5 (upd (vk v k a b c d g h 5) k x) = vk v k a b c d g x := by
  refine ⟨?_, ?_, ?_, ?_, ?_, ?_⟩
  all_goals
    funext i j
    unfold vk upd
    by_cases hj : j = k
    · subst hj
      match i with
      | 0 => simp
      | 1 => simp
      | 2 => simp
      | 3 => simp
      | 4 => simp
      | 5 => simp
      | n + 6 => simp
    · match i with
      | 0 => simp [hj]
      | 1 => simp [hj]
      | 2 => simp [hj]
      | 3 => simp [hj]
      | 4 => simp [hj]
      | 5 => simp [hj]
      | n + 6 => simp [hj]
/-- a lock's rows -/
def fv (f : FL) : Nat → Nat → Int := fun i j => match i with | 0 => f.cl j | 1 => f.pc j | 2 => f.nd j | 3 => f.ahd j | 4 => f.of j | 5 => f.wv j | _ => 0
/-- what bounds a step's world -/
structure MsIn (w : World) (M : Mp) (bk : Nat) (so : Option Addr) (cap : Nat) (dv : Value) (s : SS) (v : Nat → Nat → Int) (ps : PSta) : Prop where
  raw : MlRaw w M s v
  ref : RefAt w M.base M.pr bk so cap dv ps
  n1 : 1 ≤ s.n
  n2 : s.n ≤ 64
  hD : ps.D.length < 1000000
  hws : ps.ws.length ≤ 4096
  hac : ps.ac.length ≤ 64
  hb : M.base ≤ w.heap.size
  ha : 0 ≤ M.a ∧ M.a ≤ 4096
theorem foot_lt {w : World} {base r bk : Nat} {so : Option Addr} {cap : Nat} {dv : Value} {ps : PSta} (h : RefAt w base r bk so cap dv ps) {k : Nat} (hk : Foot r bk dv k) : base ≤ k ∧ k < w.heap.size := by
  rcases hk with rfl | rfl | hk
  · exact ⟨h.low.1, blk_lt h.obj⟩
  · exact ⟨h.low.2.1, h.counts.lt⟩
  · exact ⟨(h.touched.lt k hk).1, (h.touched.lt k hk).2⟩
section
variable {w X Y : World} {M : Mp} {bk : Nat} {so : Option Addr} {cap : Nat} {dv : Value} {s : SS} {v : Nat → Nat → Int} {ps : PSta} {R C : Nat} {d : Dd}
theorem MsIn.after (h : MsIn w M bk so cap dv s v ps) (k : Wrote Nil w X) : MsIn X M bk so cap dv s v ps :=
  ⟨h.raw.after k, h.ref.after k fun _ _ => id, h.n1, h.n2, h.hD, h.hws, h.hac, Nat.le_trans h.hb k.size, h.ha⟩
theorem MsIn.fp (h : MsIn w M bk so cap dv s v ps) : Fp w w M bk dv s v ps :=
  ⟨h.raw, ⟨bk, so, cap, dv, h.ref⟩, Wrote.refl _ w, fun j hj => by
    rcases hj with hj | hj
    · exact h.raw.lt hj
    · exact (foot_lt h.ref hj).2, fun j hj => (foot_lt h.ref hj).1, h.hb⟩
theorem MsIn.start (h : MsIn w M bk so cap dv s v ps) : ∀ Z, Z = (w.alloc (.cells #[.int .i64 0, .int .i64 0, .int .i64 0, .int .i64 0] 105)).alloc (.cells #[.int .i64 0, .int .i64 0, .int .i64 0, .int .i64 0] 105) →
    Fm w Z M bk dv s v ps w.heap.size (w.heap.size + 1) Dd.no ∧ RefAt Z M.base M.pr bk so cap dv ps ∧ Wrote Nil w Z := by
  rintro Z rfl
  have e1 : (w.alloc (.cells #[.int .i64 0, .int .i64 0, .int .i64 0, .int .i64 0] 105)).heap.size = w.heap.size + 1 := Go.Deep.nblk_alloc _ _
  have k : Wrote Nil w ((w.alloc (.cells #[.int .i64 0, .int .i64 0, .int .i64 0, .int .i64 0] 105)).alloc (.cells #[.int .i64 0, .int .i64 0, .int .i64 0, .int .i64 0] 105)) := ((Wrote.refl _ w).alloc _).alloc _
  refine ⟨⟨h.fp.after k, ?_, ?_, ⟨Nat.le_refl _, Nat.le_succ _, by omega⟩⟩, h.ref.after k fun _ _ => id, k⟩
  · rw [Go.Deep.blk_alloc_lt _ _ _ (by rw [e1]; omega), Go.Deep.blk_alloc_new]; rfl
  · rw [← e1, Go.Deep.blk_alloc_new]; rfl
theorem MlRaw.cellsK {a b c d g h : Int} {k : Nat} (q : MlRaw w M s (vk v k a b c d g h)) (hk : k < s.n) : MlRaw.Cells w M s.n k a b c d g h := by
  have := q.cells hk
  obtain ⟨e0, e1, e2, e3, e4, e5⟩ := vk_k v k a b c d g h
  rw [e0, e1, e2, e3, e4, e5] at this
  exact this
theorem Fm.dcell (h : Fm w X M bk dv s v ps R C d) : X.cell? ⟨C, 0, none⟩ = some (.int .i64 d.ev) ∧ X.cell? ⟨C, 1, none⟩ = some (.int .i64 (b2i d.enq)) ∧ X.cell? ⟨C, 2, none⟩ = some (.int .i64 (b2i d.arr)) ∧ X.cell? ⟨C, 3, none⟩ = some (.int .i64 (b2i d.lead)) := by
  rw [blk_cell h.did, blk_cell h.did, blk_cell h.did, blk_cell h.did]; exact ⟨rfl, rfl, rfl, rfl⟩
theorem Fm.dfrz (h : Fm w X M bk dv s v ps R C d) : X.frozen? ⟨C, 0, none⟩ = false ∧ X.frozen? ⟨C, 1, none⟩ = false ∧ X.frozen? ⟨C, 2, none⟩ = false ∧ X.frozen? ⟨C, 3, none⟩ = false := ⟨blk_frozen h.did 0, blk_frozen h.did 1, blk_frozen h.did 2, blk_frozen h.did 3⟩
theorem Fm.rcell (h : Fm w X M bk dv s v ps R C d) : X.cell? ⟨R, 0, none⟩ = some (.int .i64 0) ∧ X.cell? ⟨R, 1, none⟩ = some (.int .i64 0) ∧ X.cell? ⟨R, 2, none⟩ = some (.int .i64 0) ∧ X.cell? ⟨R, 3, none⟩ = some (.int .i64 0) := by
  rw [blk_cell h.res, blk_cell h.res, blk_cell h.res, blk_cell h.res]; exact ⟨rfl, rfl, rfl, rfl⟩
theorem Fm.rfrz (h : Fm w X M bk dv s v ps R C d) : X.frozen? ⟨R, 0, none⟩ = false ∧ X.frozen? ⟨R, 1, none⟩ = false ∧ X.frozen? ⟨R, 2, none⟩ = false ∧ X.frozen? ⟨R, 3, none⟩ = false := ⟨blk_frozen h.res 0, blk_frozen h.res 1, blk_frozen h.res 2, blk_frozen h.res 3⟩
end
section
variable {w X : World} {M : Mp} {bk : Nat} {dv : Value} {s : SS} {v : Nat → Nat → Int} {ps : PSta} {R C k : Nat} {a b c d g h : Int} {dd : Dd}
theorem Fm.s0 (q : Fm w X M bk dv s (vk v k a b c d g h) ps R C dd) (x : Int) : Fm w (X.setCell ⟨M.rw 0, k, none⟩ (.int .i64 x)) M bk dv s (vk v k x b c d g h) ps R C dd := by have := q.set 0 (by decide) k x; rw [(vk_set v k a b c d g h x).1] at this; exact this
theorem Fm.s1 (q : Fm w X M bk dv s (vk v k a b c d g h) ps R C dd) (x : Int) : Fm w (X.setCell ⟨M.rw 1, k, none⟩ (.int .i64 x)) M bk dv s (vk v k a x c d g h) ps R C dd := by have := q.set 1 (by decide) k x; rw [(vk_set v k a b c d g h x).2.1] at this; exact this
theorem Fm.s2 (q : Fm w X M bk dv s (vk v k a b c d g h) ps R C dd) (x : Int) : Fm w (X.setCell ⟨M.rw 2, k, none⟩ (.int .i64 x)) M bk dv s (vk v k a b x d g h) ps R C dd := by have := q.set 2 (by decide) k x; rw [(vk_set v k a b c d g h x).2.2.1] at this; exact this
theorem Fm.s3 (q : Fm w X M bk dv s (vk v k a b c d g h) ps R C dd) (x : Int) : Fm w (X.setCell ⟨M.rw 3, k, none⟩ (.int .i64 x)) M bk dv s (vk v k a b c x g h) ps R C dd := by have := q.set 3 (by decide) k x; rw [(vk_set v k a b c d g h x).2.2.2.1] at this; exact this
theorem Fm.s4 (q : Fm w X M bk dv s (vk v k a b c d g h) ps R C dd) (x : Int) : Fm w (X.setCell ⟨M.rw 4, k, none⟩ (.int .i64 x)) M bk dv s (vk v k a b c d x h) ps R C dd := by have := q.set 4 (by decide) k x; rw [(vk_set v k a b c d g h x).2.2.2.2.1] at this; exact this
theorem Fm.s5 (q : Fm w X M bk dv s (vk v k a b c d g h) ps R C dd) (x : Int) : Fm w (X.setCell ⟨M.rw 5, k, none⟩ (.int .u32 x)) M bk dv s (vk v k a b c d g x) ps R C dd := by have := q.set 5 (by decide) k x; rw [(vk_set v k a b c d g h x).2.2.2.2.2] at this; exact this
end
section
variable {w X : World} {M : Mp} {bk : Nat} {dv : Value} {s : SS} {v : Nat → Nat → Int} {ps : PSta} {R C : Nat} {d : Dd}
/-- behind a call: what it told, what is there now -/
def RkPost (w : World) (M : Mp) (bk : Nat) (dv : Value) (s : SS) (v : Nat → Nat → Int) (ps : PSta) (r : Value) (e : Ending) (w' : World) : Prop := e = .returned r ∧ Fp w w' M bk dv s v ps
/-- the end: the result is laid -/
theorem Fm.told (h : Fm w X M bk dv s v ps R C d) :
    RkPost w M bk dv s v ps d.rval (.returned d.rval) ((((X.setCell ⟨R, 0, none⟩ (.int .i64 d.ev)).setCell ⟨R, 1, none⟩ (.int .i64 (b2i d.enq))).setCell ⟨R, 2, none⟩ (.int .i64 (b2i d.arr))).setCell ⟨R, 3, none⟩ (.int .i64 (b2i d.lead))) := by
  have k := wrote4 X R (.int .i64 d.ev) (.int .i64 (b2i d.enq)) (.int .i64 (b2i d.arr)) (.int .i64 (b2i d.lead))
  have hn := h.new
  have hC : ∀ b, MG M bk dv b → ¬ One R b := fun b hb e => by have := h.fp.old b hb; cases e; omega
  have hbw := h.fp.bw
  have hlr := h.raw.low.1
  exact ⟨rfl, h.raw.wrote k (fun e => by cases e; omega) fun j hj => hC j (.inl hj), ref_off h.fp.ref k h.res, h.fp.wr.trans k fun b hb e => by cases e; omega, h.fp.old, h.fp.bs, h.fp.bw⟩
/-- all that it did is laid -/
theorem Fm.setAll (h : Fm w X M bk dv s v ps R C Dd.no) (d : Dd) : Fm w ((((X.setCell ⟨C, 0, none⟩ (.int .i64 d.ev)).setCell ⟨C, 1, none⟩ (.int .i64 (b2i d.enq))).setCell ⟨C, 2, none⟩ (.int .i64 (b2i d.arr))).setCell ⟨C, 3, none⟩ (.int .i64 (b2i d.lead))) M bk dv s v ps R C d :=
  (((h.setD 0 _ ⟨d.ev, false, false, false⟩ rfl).setD 1 _ ⟨d.ev, d.enq, false, false⟩ rfl).setD 2 _ ⟨d.ev, d.enq, d.arr, false⟩ rfl).setD 3 _ d rfl
end
/-! ### packed words -/
theorem rp_word (c a b : Int) (hc : 0 ≤ c ∧ c ≤ 1073741823) (ha : 0 ≤ a ∧ a ≤ 1) (hb : 0 ≤ b ∧ b ≤ 1) (w : World) : Calls Tryz.prog 26 #[.int .i64 c, .int .i64 a, .int .i64 b] w fun e w' => e = .returned (.int .u32 (wd c a b)) ∧ w = w' := by
  have := word_any c a b ha.1 ha.2 hb.1 hb.2 w
  rw [show refI c a b = wd c a b from by unfold refI wd; rw [held_in c hc.1 hc.2]] at this
  exact this
theorem rp_parts (v : Int) (h : 0 ≤ v ∧ v < 4294967296) (w : World) : Calls Tryz.prog 114 #[.int .u32 v] w fun e w' => e = .returned (.tuple #[.int .i64 (wCl v), .int .i64 (wWt v), .int .i64 (wSp v)]) ∧ w = w' := parts_any v h.1 h.2 w
/-! ### what a step leaves of its context's numbers -/
theorem fv_put (f : FL) (s' : SS) (k : Nat) (x : Ab) (ps : PSta) : fv { ({ f with ps := ps } : FL).put k x with s := s' } = vk (fv f) k x.cl x.pc x.nd x.ahd x.of x.wv := by
  funext i j
  unfold fv vk FL.put upd
  by_cases hj : j = k
  · subst hj
    match i with
    | 0 => simp
    | 1 => simp
    | 2 => simp
    | 3 => simp
    | 4 => simp
    | 5 => simp
    | n + 6 => simp
  · match i with
    | 0 => simp [hj]
    | 1 => simp [hj]
    | 2 => simp [hj]
    | 3 => simp [hj]
    | 4 => simp [hj]
    | 5 => simp [hj]
    | n + 6 => simp [hj]
end Go.Proofs.YteacdcdjdbobnaaGreat
