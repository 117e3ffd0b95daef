/- A step of the reference's CLH lock is a lock's step; and its New, its homes. -/
import Derived.Test.YtmoiehaabknleaaClhRstep
import Derived.Test.YtmoiehaabknleaaClhNew
import Derived.Test.YtmoiehaabknleaaGrow
import Derived.BigRegion
namespace Go.Proofs.Ytmoiehaabknleaa
open Go.RowKit Go.BigFrame
set_option linter.unusedVariables false
set_option maxRecDepth 100000

def MmPost (w : World) (M : Mp) (bk : Nat) (dv : Value) (f : FL) (d : Dd) (e : Ending) (w' : World) : Prop :=
  e = .returned d.rval ∧ MlAt w' M f ∧ RefSt w' M.base M.pr f.ps ∧ Wrote (MG M bk dv) w w'
structure MmIn (w : World) (M : Mp) (bk : Nat) (so : Option Addr) (cap : Nat) (dv : Value) (f : FL) (L : Lp) : Prop where
  ml : MlAt w M f
  ref : RefAt w M.base M.pr bk so cap dv f.ps
  n1 : 1 ≤ f.s.n
  n2 : f.s.n ≤ 64
  hD : f.ps.D.length < 1000000
  hws : f.ps.ws.length ≤ 4096
  hac : f.ps.ac.length ≤ 64
  hb : M.base ≤ w.heap.size
  ha : 0 ≤ M.a ∧ M.a ≤ 4096
  l1 : L.a1 = M.a
  l2 : L.a2 = M.a + 1
  prg : ∀ k, f.pc k = 0 ∨ f.pc k = 1 ∨ f.pc k = 2
  st4 : ∀ k, k < f.s.n → 0 ≤ f.s.st k ∧ f.s.st k ≤ 4
  dr : ∀ k, k < f.s.n → f.s.st k = 3 ∨ f.s.st k = 4 → f.pc k = 2
  nrg : ∀ k, 0 ≤ f.node k ∧ f.node k < 4294967296
  arg : ∀ k, 0 ≤ f.ahd k ∧ f.ahd k < 4294967296
  tell : ∀ u K a, 0 ≤ tellS f.ps u K a ∧ tellS f.ps u K a < 4294967296

/-- the reference's step and a lock's -/
theorem mid_ref {w : World} {M : Mp} {bk : Nat} {so : Option Addr} {cap : Nat} {dv : Value} {f : FL} {L : Lp} (h : MmIn w M bk so cap dv f L) {ah : Nat → Int} (hag : ∀ k, k < f.s.n → f.pc k = 2 → ah k = f.ahd k) {k : Nat} (hk : k < f.s.n) (u : Int) :
    (rmid M f.s f.pc f.node ah f.ps k u).d = f.did L k u ∧ (rmid M f.s f.pc f.node ah f.ps k u).ps = (f.mid L k u).ps ∧ (rmid M f.s f.pc f.node ah f.ps k u).p = (f.mid L k u).pc ∧ (rmid M f.s f.pc f.node ah f.ps k u).nd = (f.mid L k u).node ∧ ∀ j, j < f.s.n → (f.mid L k u).pc j = 2 → (rmid M f.s f.pc f.node ah f.ps k u).ah j = (f.mid L k u).ahd j := by
  have ht : (0 : Int) ≤ (k : Int) ∧ (k : Int) < f.s.n := by omega
  unfold FL.did FL.mid rmid
  rw [if_pos ht, if_pos ht, Int.toNat_natCast]
  by_cases s3 : f.s.st k = 3
  · have p2 := h.dr k hk (.inl s3)
    have s1 : ¬ f.s.st k = 1 := by omega
    have e := hag k hk p2
    rw [if_neg (fun q => s1 q.1), if_neg (fun q => s1 q.1), if_neg (fun q => s1 q.1), if_pos ⟨s3, p2⟩, if_neg s1, if_pos s3, if_neg s1, if_pos s3]
    unfold FL.rel
    refine ⟨rfl, ?_, rfl, ?_, fun j hj hp => ?_⟩
    · show doS f.ps u 2 (M.a + 1 + f.node k) 0 0 = doS f.ps u 2 (L.a2 + f.node k) 0 0
      rw [h.l2]
    · show upd f.node k (ah k) = upd f.node k (f.ahd k)
      rw [e]
    · replace hp : upd f.pc k 0 j = 2 := hp
      show ah j = upd f.ahd k 0 j
      by_cases e : j = k
      · subst e; rw [upd_same] at hp; omega
      · rw [upd_other _ _ e] at hp ⊢; exact hag j hj hp
  · by_cases s4 : f.s.st k = 4
    · have p2 := h.dr k hk (.inr s4)
      have s1 : ¬ f.s.st k = 1 := by omega
      rw [if_neg (fun q => s1 q.1), if_neg (fun q => s1 q.1), if_neg (fun q => s1 q.1), if_neg (fun q => s3 q.1), if_pos ⟨s4, p2⟩, if_neg s1, if_neg s3, if_pos s4, if_neg s1, if_neg s3, if_pos s4]
      unfold FL.ask FL.askD
      rw [h.l1]
      exact ⟨rfl, rfl, rfl, rfl, hag⟩
    · by_cases s1 : f.s.st k = 1
      · rw [if_pos s1, if_pos s1]
        unfold FL.acq FL.acqD
        by_cases p0 : f.pc k = 0
        · rw [if_pos ⟨s1, p0⟩, if_pos p0, if_pos p0, h.l2]
          refine ⟨rfl, rfl, rfl, rfl, fun j hj hp => ?_⟩
          replace hp : upd f.pc k 1 j = 2 := hp
          by_cases e : j = k
          · subst e; rw [upd_same] at hp; omega
          · rw [upd_other _ _ e] at hp; exact hag j hj hp
        · rw [if_neg (fun q => p0 q.2), if_neg p0, if_neg p0]
          by_cases p1 : f.pc k = 1
          · rw [if_pos ⟨s1, p1⟩, if_pos p1, if_pos p1, h.l1]
            refine ⟨rfl, rfl, rfl, rfl, fun j hj hp => ?_⟩
            replace hp : upd f.pc k 2 j = 2 := hp
            show upd ah k _ j = upd f.ahd k _ j
            by_cases e : j = k
            · subst e; rw [upd_same, upd_same]
            · rw [upd_other _ _ e] at hp; rw [upd_other _ _ e, upd_other _ _ e]; exact hag j hj hp
          · have p2 : f.pc k = 2 := by have := h.prg k; omega
            have e := hag k hk p2
            rw [if_neg (fun q => p1 q.2), if_pos ⟨s1, p2⟩, if_neg p1, if_neg p1, e, h.l2]
            exact ⟨rfl, rfl, rfl, rfl, hag⟩
      · rw [if_neg (fun q => s1 q.1), if_neg (fun q => s1 q.1), if_neg (fun q => s1 q.1), if_neg (fun q => s3 q.1), if_neg (fun q => s4 q.1), if_neg s1, if_neg s3, if_neg s4, if_neg s1, if_neg s3, if_neg s4]
        exact ⟨rfl, rfl, rfl, rfl, hag⟩
set_option maxHeartbeats 4000000 in
theorem ml_out {w : World} {M : Mp} {bk : Nat} {so : Option Addr} {cap : Nat} {dv : Value} {s : SS} {p nd ah : Nat → Int} {ps : PSta} (h : MsIn w M bk so cap dv s p nd ah ps) (t : Int) (ht : ¬ (0 ≤ t ∧ t < s.n)) (u x : Int) :
    Calls Try.prog 102 #[.pointer (some ⟨M.r, 0, none⟩), .pointer (some ⟨M.pr, 0, none⟩), .int .i64 t, .int .i64 u, .int .i64 x] w (MsPost w M bk dv s p nd ah ps Dd.no) := by
  have n2 := h.n2
  have kk : Wrote Nil w (w.alloc (.cells #[.int .i64 0, .int .i64 0, .int .i64 0, .int .i64 0] 124)) := (Wrote.refl _ w).alloc _
  have b2 := (h.raw.after kk).cell2
  have hB := Go.Deep.blk_alloc_new w (.cells #[.int .i64 0, .int .i64 0, .int .i64 0, .int .i64 0] 124)
  have HE := Lib.hid (And.intro (h.raw.after kk) (And.intro (h.ref.after kk fun _ _ => id) (And.intro hB kk)))
  clear h kk hB
  by_cases h0 : t < 0
  · go_enter Try.func102, Try.ntmps102
    go_wp2
    refine bodyPost_ret (v := Dd.rval Dd.no) (results_cell_row rfl _ _ w.heap.size 124 _ (0, 0) _ rfl HE.out.2.2.1 Try.underlying124 rfl i_rid) rfl ⟨rfl, HE.out.1, ⟨bk, so, cap, dv, HE.out.2.1⟩, HE.out.2.2.2.mono fun _ _ e => e.elim⟩
  · have h1 : (s.n : Int) ≤ t := by omega
    clear ht
    generalize s.n = n at *
    go_enter Try.func102, Try.ntmps102
    go_wp2
    refine bodyPost_ret (v := Dd.rval Dd.no) (results_cell_row rfl _ _ w.heap.size 124 _ (0, 0) _ rfl HE.out.2.2.1 Try.underlying124 rfl i_rid) rfl ⟨rfl, HE.out.1, ⟨bk, so, cap, dv, HE.out.2.1⟩, HE.out.2.2.2.mono fun _ _ e => e.elim⟩
theorem mm_step {w : World} {M : Mp} {bk : Nat} {so : Option Addr} {cap : Nat} {dv : Value} {f : FL} {L : Lp} (h : MmIn w M bk so cap dv f L) (t u x : Int) :
    Calls Try.prog 102 #[.pointer (some ⟨M.r, 0, none⟩), .pointer (some ⟨M.pr, 0, none⟩), .int .i64 t, .int .i64 u, .int .i64 x] w (MmPost w M bk dv (f.step L t u) (f.did L t u)) := by
  obtain ⟨ah, hraw, hag⟩ := h.ml.raw
  have hin : MsIn w M bk so cap dv f.s f.pc f.node ah f.ps := ⟨hraw, h.ref, h.n1, h.n2, h.hD, h.hws, h.hac, h.hb, h.ha⟩
  by_cases ht : 0 ≤ t ∧ t < f.s.n
  · obtain ⟨k, rfl⟩ := Int.eq_ofNat_of_zero_le ht.1
    have hk : k < f.s.n := by omega
    obtain ⟨q1, q2, q3, q4, q5⟩ := mid_ref h hag hk u
    refine (ml_step hin k hk u x (h.prg k) (h.st4 k hk) (h.nrg k) (fun e => by rw [hag k hk e]; exact h.arg k) (h.tell u)).mono ?_
    rintro e w' ⟨rfl, a, b, c⟩
    rw [q1, q3, q4] at a
    rw [q2] at b
    rw [q1]
    exact ⟨rfl, ⟨_, a, fun j hj hp => q5 j (by have hj : j < (f.s.fin k (f.did L k u).ev).n := hj; rw [SS.fin_n] at hj; exact hj) hp⟩, b, c⟩
  · have ed : f.did L t u = Dd.no := by unfold FL.did; rw [if_neg ht]
    have es : f.step L t u = f := by
      unfold FL.step
      have e0 : endO f.s t Dd.no.ev = none := by unfold endO; rw [if_neg ht]
      have e1 : f.s.fin t Dd.no.ev = f.s := by unfold SS.fin; rw [e0]
      rw [ed, e1]
      unfold FL.mid
      rw [if_neg ht]
    rw [ed, es]
    refine (ml_out hin t ht u x).mono ?_
    rintro e w' ⟨rfl, a, b, c⟩
    exact ⟨rfl, ⟨_, a, hag⟩, b, c⟩

/-! ### its seats -/
theorem ml_seats {w : World} {M : Mp} {s : SS} {p nd ah : Nat → Int} (h : MlRaw w M s p nd ah) : Calls Try.prog 101 #[.pointer (some ⟨M.r, 0, none⟩)] w fun e w' => e = .returned (.pointer (some ⟨M.sr, 0, none⟩)) ∧ w = w' := by
  have c0 := h.cell0
  clear h
  go_enter Try.func101, Try.ntmps101
  go_wp2
  go_ret
  exact ⟨rfl, rfl⟩

/-- what bounds a step of both -/
theorem mm_in {w : World} {M : Mp} {bk : Nat} {so : Option Addr} {cap : Nat} {dv : Value} {f : FL} {L : Lp} {W : List Nat} (hl : LkAt w L f) (ml : MlAt w M f) (hr : RefAt w M.base M.pr bk so cap dv f.ps) (hO : OrdI f W)
    (n1 : 1 ≤ f.s.n) (hD : f.ps.D.length < 1000000) (hws : f.ps.ws.length ≤ 4096) (hb : M.base ≤ w.heap.size) (ha : M.a = 0) (l1 : L.a1 = 0) (l2 : L.a2 = 1) : MmIn w M bk so cap dv f L := by
  obtain ⟨g, x, ho⟩ := hO
  have hac := ho.ac
  have h8 := ho.n8
  refine ⟨ml, hr, n1, by omega, hD, hws, by omega, hb, by rw [ha]; omega, by rw [l1, ha], by rw [l2, ha]; rfl, ho.prg, fun k hk => ?_, fun k hk hs => (ho.pc2 k hk).2 (List.mem_append_left _ (by rw [ho.held hk (.inr hs)]; simp)), fun k => (hl.raw.rng k).2.1, fun k => (hl.raw.rng k).2.2, fun u K a => hl.tell u K a⟩
  by_cases hm : k ∈ g.toList ++ W
  · rcases List.mem_append.1 hm with hm | hm
    · have := ho.stg k (by simpa using hm); omega
    · have := ho.stw k hm; omega
  · have := ho.sto k hk hm; omega

/-! ### how many accesses a call has -/
theorem acc_do (s : PSta) (t K a old v : Int) : cntI (doS s t K a old v).ac t ≤ cntI s.ac t + 1 ∧ cntI s.ac t ≤ cntI (doS s t K a old v).ac t := by
  unfold doS
  split
  · show cntI (bump s.ac t.toNat true) t ≤ _ ∧ _ ≤ cntI (bump s.ac t.toNat true) t
    unfold cntI bump
    by_cases h0 : 0 ≤ t
    · rw [if_pos h0, if_pos h0, if_pos rfl]
      by_cases hl : t.toNat < s.ac.length
      · rw [show (s.ac.set t.toNat (s.ac.getD t.toNat 0 + 1)).getD t.toNat 0 = s.ac.getD t.toNat 0 + 1 by simp [hl]]
        omega
      · rw [List.set_eq_of_length_le (by omega)]
        omega
    · rw [if_neg h0, if_neg h0]; omega
  · omega
theorem acc_mid (f : FL) (L : Lp) (t : Int) : cntI (f.mid L t t).ps.ac t ≤ cntI f.ps.ac t + 1 ∧ cntI f.ps.ac t ≤ cntI (f.mid L t t).ps.ac t := by
  unfold FL.mid FL.acq FL.rel FL.ask
  repeat' split
  all_goals first | exact acc_do _ _ _ _ _ _ | omega

/-! ### New -/
/-- amid its making: the nodes' row is nv, what has been made lies below B -/
structure MkA (w X : World) (B n : Nat) (a : Int) (r sr : Nat) (hv dv : Value) (pc mn : Nat) (nv : Value) : Prop where
  obj : X.heap[r]? = some (.cells #[.pointer (some ⟨sr, 0, none⟩), .int .i64 a, .slice (some ⟨pc, 0, none⟩) n n, nv, .slice (some ⟨mn, 0, none⟩) n n] 49 (0, 0))
  seat : RsAt X sr hv dv (newSeat n false true)
  pcs : X.heap[pc]? = some (.cells (rowA n (inV fun _ => 0)) 3 (0, 0))
  ahs : X.heap[mn]? = some (.cells (rowA n (inV fun _ => 0)) 3 (0, 0))
  ne : r ≠ pc ∧ r ≠ mn ∧ pc ≠ mn
  off : ∀ k, SF sr hv dv k → k ≠ r ∧ k ≠ pc ∧ k ≠ mn
  new : w.heap.size ≤ r ∧ w.heap.size ≤ pc ∧ w.heap.size ≤ mn ∧ ∀ k, SF sr hv dv k → w.heap.size ≤ k
  low : r < B ∧ pc < B ∧ mn < B ∧ ∀ k, SF sr hv dv k → k < B
  wr : Wrote Nil w X
namespace MkA
variable {w X Y : World} {B n r sr pc mn : Nat} {a : Int} {hv dv nv : Value}
theorem apart {S : Nat → Prop} (h : MkA w X B n a r sr hv dv pc mn nv) (k : Wrote S X Y) (hS : ∀ b, b < X.heap.size → S b → B ≤ b) : MkA w Y B n a r sr hv dv pc mn nv := by
  have l := h.low
  have nw := h.new
  have lr := blk_lt h.obj
  have lp := blk_lt h.pcs
  have lm := blk_lt h.ahs
  refine ⟨(k.block _ lr fun e => by have := hS _ lr e; omega).trans h.obj, h.seat.wrote k fun j hj e => by have := hS _ (SrAt.lt h.seat hj) e; have := l.2.2.2 j hj; omega, (k.block _ lp fun e => by have := hS _ lp e; omega).trans h.pcs, (k.block _ lm fun e => by have := hS _ lm e; omega).trans h.ahs, h.ne, h.off, h.new, h.low, h.wr.trans k fun b hb e => ?_⟩
  have := hS b (Nat.lt_of_lt_of_le hb h.wr.size) e
  omega
theorem after (h : MkA w X B n a r sr hv dv pc mn nv) (k : Wrote Nil X Y) : MkA w Y B n a r sr hv dv pc mn nv := h.apart k fun _ _ e => e.elim
theorem cell3 (h : MkA w X B n a r sr hv dv pc mn nv) : X.cell? ⟨r, 3, none⟩ = some nv := by rw [blk_cell h.obj]; rfl
theorem frz (h : MkA w X B n a r sr hv dv pc mn nv) : X.frozen? ⟨r, 3, none⟩ = false := blk_frozen h.obj 3
theorem set3 (h : MkA w X B n a r sr hv dv pc mn nv) (v : Value) : MkA w (X.setCell ⟨r, 3, none⟩ v) B n a r sr hv dv pc mn v := by
  have k : Wrote (One r) X (X.setCell ⟨r, 3, none⟩ v) := (Wrote.refl _ X).setCell _ _ fun _ => rfl
  have nw := h.new
  have ne := h.ne
  refine ⟨(blk_setCell h.obj 3 v).trans rfl, h.seat.wrote k fun j hj e => (h.off j hj).1 e, (k.block _ (blk_lt h.pcs) fun e => ne.1 e.symm).trans h.pcs, (k.block _ (blk_lt h.ahs) fun e => ne.2.1 e.symm).trans h.ahs, h.ne, h.off, h.new, h.low, h.wr.trans k fun b hb e => ?_⟩
  have e : b = r := e
  omega
end MkA
def MkPost (w : World) (n : Nat) (a : Int) (v : Value) (X : World) : Prop :=
  ∃ (r sr : Nat) (hv dv : Value) (pc mn : Nat), v = .pointer (some ⟨r, 0, none⟩) ∧ MkA w X X.heap.size n a r sr hv dv pc mn (.slice none 0 0)
theorem two_0 (w : World) (A B : Obj) : ((w.alloc A).alloc B).heap[w.heap.size]? = some A := by
  rw [Go.Deep.blk_alloc_lt _ _ _ (by rw [Go.Deep.nblk_alloc]; omega), Go.Deep.blk_alloc_new]
theorem two_1 (w : World) (A B : Obj) : ((w.alloc A).alloc B).heap[w.heap.size + 1]? = some B := by
  rw [← Go.Deep.nblk_alloc w A, Go.Deep.blk_alloc_new]
theorem mk_end {w Wc w2 W : World} {n : Nat} {a : Int} {r pc mn lb : Nat} {hv dv : Value} {A B : Array Value} (hA : rowA n (inV fun _ => 0) = A) (hB : rowA n (inV fun _ => 0) = B) (h0 : Wrote Nil w Wc) (hR : RsAt w2 r hv dv (newSeat n false true)) (hnew : ∀ k, SF r hv dv k → Wc.heap.size ≤ k) (hW : Wrote Nil Wc w2) (h2 : Wrote Nil w2 W)
    (hp : W.heap[pc]? = some (.cells A 3 (0, 0))) (hm : W.heap[mn]? = some (.cells B 3 (0, 0))) (hpp : (w.heap.size ≤ pc ∧ pc < Wc.heap.size) ∨ w2.heap.size ≤ pc) (hmm : (w.heap.size ≤ mn ∧ mn < Wc.heap.size) ∨ w2.heap.size ≤ mn) (hne : pc ≠ mn) (hlb : lb = W.heap.size)
    (Y : World) (hY : Y = W.alloc (.cells #[.pointer (some ⟨r, 0, none⟩), .int .i64 a, .slice (some ⟨pc, 0, none⟩) n n, .slice none 0 0, .slice (some ⟨mn, 0, none⟩) n n] 49)) : MkPost w n a (.pointer (some ⟨lb, 0, none⟩)) Y := by
  subst hlb hY hA hB
  have k : Wrote Nil W (W.alloc (.cells #[.pointer (some ⟨r, 0, none⟩), .int .i64 a, .slice (some ⟨pc, 0, none⟩) n n, .slice none 0 0, .slice (some ⟨mn, 0, none⟩) n n] 49)) := (Wrote.refl _ W).alloc _
  have e1 : (W.alloc (.cells #[.pointer (some ⟨r, 0, none⟩), .int .i64 a, .slice (some ⟨pc, 0, none⟩) n n, .slice none 0 0, .slice (some ⟨mn, 0, none⟩) n n] 49)).heap.size = W.heap.size + 1 := Go.Deep.nblk_alloc _ _
  have s0 := h0.size
  have s1 := hW.size
  have s2 := h2.size
  have lp := blk_lt hp
  have lm := blk_lt hm
  have hsf : ∀ k, SF r hv dv k → Wc.heap.size ≤ k ∧ k < w2.heap.size := fun k hk => ⟨hnew k hk, SrAt.lt hR hk⟩
  refine ⟨W.heap.size, r, hv, dv, pc, mn, rfl, ⟨Go.Deep.blk_alloc_new W _, hR.after (h2.nil k), (k.block _ lp id).trans hp, (k.block _ lm id).trans hm, ⟨by omega, by omega, hne⟩, fun j hj => ?_, ⟨by omega, by omega, by omega, fun j hj => ?_⟩, ⟨by omega, by omega, by omega, fun j hj => ?_⟩, ((h0.nil hW).nil h2).nil k⟩⟩
  · have := hsf j hj
    omega
  · have := hsf j hj; omega
  · have := hsf j hj; omega
def ones1 (k : Nat) : List Value := (List.range k).map fun (i : Nat) => Value.int .i64 ((i : Int) + 1)
theorem ones1_more (k : Nat) : ones1 (k + 1) = ones1 k ++ [.int .i64 ((k : Int) + 1)] := by unfold ones1; rw [List.range_succ, List.map_append]; rfl
/-- amid the loop: k nodes are laid -/
structure MkL (w X : World) (B n : Nat) (a : Int) (r sr : Nat) (hv dv : Value) (pc mn k : Nat) (v : Value) : Prop where
  am : MkA w X B n a r sr hv dv pc mn v
  own : X.ownsRow B 3 1 v k (ones1 k)
  sz : B ≤ X.heap.size
def NewMlPost (w : World) (n : Nat) (a : Int) (e : Ending) (w' : World) : Prop :=
  ∃ M : Mp, e = .returned (.pointer (some ⟨M.r, 0, none⟩)) ∧ MlRaw w' M (newSeat n false true) (fun _ => 0) (nodeK n) (fun _ => 0) ∧ M.a = a ∧ M.base = w'.heap.size ∧ (w.heap.size ≤ M.r ∧ ∀ k, MF M k → w.heap.size ≤ k) ∧ Wrote Nil w w'
theorem mk_done {w X : World} {B n : Nat} {a : Int} {r sr : Nat} {hv dv : Value} {pc mn : Nat} {v : Value} (h : MkL w X B n a r sr hv dv pc mn n v) (n1 : 1 ≤ n) (hB : w.heap.size ≤ B) : NewMlPost w n a (.returned (.pointer (some ⟨r, 0, none⟩))) X := by
  have l := h.am.low
  have nw := h.am.new
  have ne := h.am.ne
  have sz := h.sz
  have hl := h.own.1
  rcases h.own.2 with ⟨_, h0⟩ | ⟨g, cap, cur, rfl, hb, hg, hnc, hcm, hcs, ht⟩
  · omega
  · have gl := blk_lt hg
    refine ⟨⟨r, sr, hv, dv, pc, g, cap, mn, a, 0, X.heap.size⟩, rfl, ⟨h.am.obj, h.am.seat, h.am.pcs, ⟨cur, hg, fun k hk => ?_⟩, h.am.ahs, ⟨ne.1, by dsimp only; omega, ne.2.1, by dsimp only; omega, ne.2.2, by dsimp only; omega⟩, fun j hj => ?_, ?_⟩, rfl, rfl, ⟨nw.1, fun j hj => ?_⟩, h.am.wr⟩
    · have hk : k < n := hk
      have h2 : (cur.toList.take (n * 1))[k]? = (ones1 n)[k]? := by rw [ht]
      rw [List.getElem?_take_of_lt (by omega)] at h2
      rw [← Array.getElem?_toList, h2]
      unfold ones1 inV nodeK
      rw [List.getElem?_map, List.getElem?_range hk, if_pos hk]
      rfl
    · have o := h.am.off j hj
      have q := l.2.2.2 j hj
      dsimp only
      exact ⟨o.1, o.2.1, by omega, o.2.2⟩
    · dsimp only
      exact ⟨by omega, by omega, by omega, by omega, fun j hj => by have := l.2.2.2 j hj; omega⟩
    · rcases hj with rfl | rfl | rfl | hj
      · (try dsimp only); omega
      · (try dsimp only); omega
      · (try dsimp only); omega
      · exact nw.2.2.2 j hj
set_option maxHeartbeats 4000000 in
theorem ml_new (n : Nat) (n1 : 1 ≤ n) (n2 : n ≤ 64) (a : Int) (w : World) : Calls Try.prog 15 #[.int .i64 (n : Int), .int .i64 a] w (NewMlPost w n a) := by
  obtain ⟨i0, hi, hz0, hz1, hz2⟩ := info_parts info_int
  have hmk : ∀ w : World, (Instr.makeSlice 22 (.int .i64 (n : Int)) (.int .i64 (n : Int))).run Try.prog w = .ok (.slice (some ⟨w.heap.size, 0, none⟩) n n) (w.alloc (.cells (rowA n (inV fun _ => 0)) 3)) := by
    intro w
    have h := Go.run_make (P := Try.prog) w 22 3 i0 _ Try.underlying22 hi hz0 .i64 .i64 n n (by omega) (by omega) (by rw [hz2]; omega) (by omega)
    rw [hz1] at h
    simp only [Int.toNat_natCast] at h
    rw [show madeCells (Value.int .i64 0).cells (n * 1) = rowA n (inV fun _ => 0) from made_row (.int .i64 0) n] at h
    exact h
  generalize hA : rowA n (inV fun _ => 0) = A at hmk
  have cS := fun W => rs_new n false true n2 W
  have HA := Lib.hid (And.intro hA hA)
  clear hA
  go_enter Try.func15, Try.ntmps15
  go_upto_region 1 with fail
  go_cut [5] from 7 to 15 (fun v5 wx => MkPost w n a v5 wx)
  case first =>
    go_region_with (go_at_call 35; (with_reducible refine (cS _).mono ?_); intro e w2 hq; unfold RsNewPost at hq; obtain ⟨r, hv, dv, rfl, hR, hnew, hW⟩ := hq; have HR := Lib.hid (And.intro hR (And.intro hnew hW)); clear hR hnew hW cS)
    all_goals
      go_wp2
      go_meet
      first
        | exact mk_end HA.out.1 HA.out.2 ((Wrote.refl Nil w).drew) HR.out.1 HR.out.2.1 HR.out.2.2 (((Wrote.refl Nil w2).alloc _).alloc _) (two_0 w2 _ _) (two_1 w2 _ _) (by exact .inr (Nat.le_refl _)) (by exact .inr (Nat.le_succ _)) (by omega) (by simp only [Go.Deep.nblk_alloc]) _ rfl
        | exact mk_end HA.out.1 HA.out.2 ((Wrote.refl Nil w).drew) HR.out.1 HR.out.2.1 HR.out.2.2 (((Wrote.refl Nil w2).alloc _).alloc _) (two_1 w2 _ _) (two_0 w2 _ _) (by exact .inr (Nat.le_succ _)) (by exact .inr (Nat.le_refl _)) (by omega) (by simp only [Go.Deep.nblk_alloc]) _ rfl
        | exact mk_end HA.out.1 HA.out.2 (((Wrote.refl Nil w).alloc _).drew) HR.out.1 HR.out.2.1 HR.out.2.2 ((Wrote.refl Nil w2).alloc _) ((Go.Deep.blk_alloc_lt w2 _ _ (Nat.lt_of_lt_of_le ((by have e : (w.alloc (.cells A 3)).heap.size = w.heap.size + 1 := Go.Deep.nblk_alloc _ _; show w.heap.size < (w.alloc (.cells A 3)).heap.size; omega)) HR.out.2.2.size)).trans ((HR.out.2.2.block w.heap.size ((by have e : (w.alloc (.cells A 3)).heap.size = w.heap.size + 1 := Go.Deep.nblk_alloc _ _; show w.heap.size < (w.alloc (.cells A 3)).heap.size; omega)) id).trans (Go.Deep.blk_alloc_new w (.cells A 3)))) (Go.Deep.blk_alloc_new w2 _) (by exact .inl ⟨Nat.le_refl _, (by have e : (w.alloc (.cells A 3)).heap.size = w.heap.size + 1 := Go.Deep.nblk_alloc _ _; show w.heap.size < (w.alloc (.cells A 3)).heap.size; omega)⟩) (by exact .inr (Nat.le_refl _)) (by have q1 : w.heap.size < (w.alloc (.cells A 3)).heap.size := (by have e : (w.alloc (.cells A 3)).heap.size = w.heap.size + 1 := Go.Deep.nblk_alloc _ _; show w.heap.size < (w.alloc (.cells A 3)).heap.size; omega); have q2 := HR.out.2.2.size; have q3 : (w.alloc (.cells A 3)).heap.size ≤ w2.heap.size := q2; omega) (by simp only [Go.Deep.nblk_alloc]) _ rfl
        | exact mk_end HA.out.1 HA.out.2 (((Wrote.refl Nil w).drew).alloc _) HR.out.1 HR.out.2.1 HR.out.2.2 ((Wrote.refl Nil w2).alloc _) ((Go.Deep.blk_alloc_lt w2 _ _ (Nat.lt_of_lt_of_le ((by have e : (w.alloc (.cells A 3)).heap.size = w.heap.size + 1 := Go.Deep.nblk_alloc _ _; show w.heap.size < (w.alloc (.cells A 3)).heap.size; omega)) HR.out.2.2.size)).trans ((HR.out.2.2.block w.heap.size ((by have e : (w.alloc (.cells A 3)).heap.size = w.heap.size + 1 := Go.Deep.nblk_alloc _ _; show w.heap.size < (w.alloc (.cells A 3)).heap.size; omega)) id).trans (Go.Deep.blk_alloc_new w (.cells A 3)))) (Go.Deep.blk_alloc_new w2 _) (by exact .inl ⟨Nat.le_refl _, (by have e : (w.alloc (.cells A 3)).heap.size = w.heap.size + 1 := Go.Deep.nblk_alloc _ _; show w.heap.size < (w.alloc (.cells A 3)).heap.size; omega)⟩) (by exact .inr (Nat.le_refl _)) (by have q1 : w.heap.size < (w.alloc (.cells A 3)).heap.size := (by have e : (w.alloc (.cells A 3)).heap.size = w.heap.size + 1 := Go.Deep.nblk_alloc _ _; show w.heap.size < (w.alloc (.cells A 3)).heap.size; omega); have q2 := HR.out.2.2.size; have q3 : (w.alloc (.cells A 3)).heap.size ≤ w2.heap.size := q2; omega) (by simp only [Go.Deep.nblk_alloc]) _ rfl
        | exact mk_end HA.out.1 HA.out.2 (((Wrote.refl Nil w).alloc _).drew) HR.out.1 HR.out.2.1 HR.out.2.2 ((Wrote.refl Nil w2).alloc _) (Go.Deep.blk_alloc_new w2 _) ((Go.Deep.blk_alloc_lt w2 _ _ (Nat.lt_of_lt_of_le ((by have e : (w.alloc (.cells A 3)).heap.size = w.heap.size + 1 := Go.Deep.nblk_alloc _ _; show w.heap.size < (w.alloc (.cells A 3)).heap.size; omega)) HR.out.2.2.size)).trans ((HR.out.2.2.block w.heap.size ((by have e : (w.alloc (.cells A 3)).heap.size = w.heap.size + 1 := Go.Deep.nblk_alloc _ _; show w.heap.size < (w.alloc (.cells A 3)).heap.size; omega)) id).trans (Go.Deep.blk_alloc_new w (.cells A 3)))) (by exact .inr (Nat.le_refl _)) (by exact .inl ⟨Nat.le_refl _, (by have e : (w.alloc (.cells A 3)).heap.size = w.heap.size + 1 := Go.Deep.nblk_alloc _ _; show w.heap.size < (w.alloc (.cells A 3)).heap.size; omega)⟩) (by have q1 : w.heap.size < (w.alloc (.cells A 3)).heap.size := (by have e : (w.alloc (.cells A 3)).heap.size = w.heap.size + 1 := Go.Deep.nblk_alloc _ _; show w.heap.size < (w.alloc (.cells A 3)).heap.size; omega); have q2 := HR.out.2.2.size; have q3 : (w.alloc (.cells A 3)).heap.size ≤ w2.heap.size := q2; omega) (by simp only [Go.Deep.nblk_alloc]) _ rfl
        | exact mk_end HA.out.1 HA.out.2 (((Wrote.refl Nil w).drew).alloc _) HR.out.1 HR.out.2.1 HR.out.2.2 ((Wrote.refl Nil w2).alloc _) (Go.Deep.blk_alloc_new w2 _) ((Go.Deep.blk_alloc_lt w2 _ _ (Nat.lt_of_lt_of_le ((by have e : (w.alloc (.cells A 3)).heap.size = w.heap.size + 1 := Go.Deep.nblk_alloc _ _; show w.heap.size < (w.alloc (.cells A 3)).heap.size; omega)) HR.out.2.2.size)).trans ((HR.out.2.2.block w.heap.size ((by have e : (w.alloc (.cells A 3)).heap.size = w.heap.size + 1 := Go.Deep.nblk_alloc _ _; show w.heap.size < (w.alloc (.cells A 3)).heap.size; omega)) id).trans (Go.Deep.blk_alloc_new w (.cells A 3)))) (by exact .inr (Nat.le_refl _)) (by exact .inl ⟨Nat.le_refl _, (by have e : (w.alloc (.cells A 3)).heap.size = w.heap.size + 1 := Go.Deep.nblk_alloc _ _; show w.heap.size < (w.alloc (.cells A 3)).heap.size; omega)⟩) (by have q1 : w.heap.size < (w.alloc (.cells A 3)).heap.size := (by have e : (w.alloc (.cells A 3)).heap.size = w.heap.size + 1 := Go.Deep.nblk_alloc _ _; show w.heap.size < (w.alloc (.cells A 3)).heap.size; omega); have q2 := HR.out.2.2.size; have q3 : (w.alloc (.cells A 3)).heap.size ≤ w2.heap.size := q2; omega) (by simp only [Go.Deep.nblk_alloc]) _ rfl
        | exact mk_end HA.out.1 HA.out.2 ((((Wrote.refl Nil w).alloc _).alloc _).drew) HR.out.1 HR.out.2.1 HR.out.2.2 (Wrote.refl Nil w2) ((HR.out.2.2.block w.heap.size ((by have e : ((w.alloc (.cells A 3)).alloc (.cells A 3)).heap.size = w.heap.size + 1 + 1 := (by rw [Go.Deep.nblk_alloc, Go.Deep.nblk_alloc]); show w.heap.size < ((w.alloc (.cells A 3)).alloc (.cells A 3)).heap.size; omega)) id).trans (two_0 w (.cells A 3) (.cells A 3))) ((HR.out.2.2.block (w.heap.size + 1) ((by have e : ((w.alloc (.cells A 3)).alloc (.cells A 3)).heap.size = w.heap.size + 1 + 1 := (by rw [Go.Deep.nblk_alloc, Go.Deep.nblk_alloc]); show w.heap.size + 1 < ((w.alloc (.cells A 3)).alloc (.cells A 3)).heap.size; omega)) id).trans (two_1 w (.cells A 3) (.cells A 3))) (by exact .inl ⟨Nat.le_refl _, (by have e : ((w.alloc (.cells A 3)).alloc (.cells A 3)).heap.size = w.heap.size + 1 + 1 := (by rw [Go.Deep.nblk_alloc, Go.Deep.nblk_alloc]); show w.heap.size < ((w.alloc (.cells A 3)).alloc (.cells A 3)).heap.size; omega)⟩) (by exact .inl ⟨Nat.le_succ _, (by have e : ((w.alloc (.cells A 3)).alloc (.cells A 3)).heap.size = w.heap.size + 1 + 1 := (by rw [Go.Deep.nblk_alloc, Go.Deep.nblk_alloc]); show w.heap.size + 1 < ((w.alloc (.cells A 3)).alloc (.cells A 3)).heap.size; omega)⟩) (by omega) rfl _ rfl
        | exact mk_end HA.out.1 HA.out.2 ((((Wrote.refl Nil w).drew).alloc _).alloc _) HR.out.1 HR.out.2.1 HR.out.2.2 (Wrote.refl Nil w2) ((HR.out.2.2.block w.heap.size ((by have e : ((w.alloc (.cells A 3)).alloc (.cells A 3)).heap.size = w.heap.size + 1 + 1 := (by rw [Go.Deep.nblk_alloc, Go.Deep.nblk_alloc]); show w.heap.size < ((w.alloc (.cells A 3)).alloc (.cells A 3)).heap.size; omega)) id).trans (two_0 w (.cells A 3) (.cells A 3))) ((HR.out.2.2.block (w.heap.size + 1) ((by have e : ((w.alloc (.cells A 3)).alloc (.cells A 3)).heap.size = w.heap.size + 1 + 1 := (by rw [Go.Deep.nblk_alloc, Go.Deep.nblk_alloc]); show w.heap.size + 1 < ((w.alloc (.cells A 3)).alloc (.cells A 3)).heap.size; omega)) id).trans (two_1 w (.cells A 3) (.cells A 3))) (by exact .inl ⟨Nat.le_refl _, (by have e : ((w.alloc (.cells A 3)).alloc (.cells A 3)).heap.size = w.heap.size + 1 + 1 := (by rw [Go.Deep.nblk_alloc, Go.Deep.nblk_alloc]); show w.heap.size < ((w.alloc (.cells A 3)).alloc (.cells A 3)).heap.size; omega)⟩) (by exact .inl ⟨Nat.le_succ _, (by have e : ((w.alloc (.cells A 3)).alloc (.cells A 3)).heap.size = w.heap.size + 1 + 1 := (by rw [Go.Deep.nblk_alloc, Go.Deep.nblk_alloc]); show w.heap.size + 1 < ((w.alloc (.cells A 3)).alloc (.cells A 3)).heap.size; omega)⟩) (by omega) rfl _ rfl
        | exact mk_end HA.out.1 HA.out.2 ((((Wrote.refl Nil w).alloc _).alloc _).drew) HR.out.1 HR.out.2.1 HR.out.2.2 (Wrote.refl Nil w2) ((HR.out.2.2.block (w.heap.size + 1) ((by have e : ((w.alloc (.cells A 3)).alloc (.cells A 3)).heap.size = w.heap.size + 1 + 1 := (by rw [Go.Deep.nblk_alloc, Go.Deep.nblk_alloc]); show w.heap.size + 1 < ((w.alloc (.cells A 3)).alloc (.cells A 3)).heap.size; omega)) id).trans (two_1 w (.cells A 3) (.cells A 3))) ((HR.out.2.2.block w.heap.size ((by have e : ((w.alloc (.cells A 3)).alloc (.cells A 3)).heap.size = w.heap.size + 1 + 1 := (by rw [Go.Deep.nblk_alloc, Go.Deep.nblk_alloc]); show w.heap.size < ((w.alloc (.cells A 3)).alloc (.cells A 3)).heap.size; omega)) id).trans (two_0 w (.cells A 3) (.cells A 3))) (by exact .inl ⟨Nat.le_succ _, (by have e : ((w.alloc (.cells A 3)).alloc (.cells A 3)).heap.size = w.heap.size + 1 + 1 := (by rw [Go.Deep.nblk_alloc, Go.Deep.nblk_alloc]); show w.heap.size + 1 < ((w.alloc (.cells A 3)).alloc (.cells A 3)).heap.size; omega)⟩) (by exact .inl ⟨Nat.le_refl _, (by have e : ((w.alloc (.cells A 3)).alloc (.cells A 3)).heap.size = w.heap.size + 1 + 1 := (by rw [Go.Deep.nblk_alloc, Go.Deep.nblk_alloc]); show w.heap.size < ((w.alloc (.cells A 3)).alloc (.cells A 3)).heap.size; omega)⟩) (by omega) rfl _ rfl
        | exact mk_end HA.out.1 HA.out.2 ((((Wrote.refl Nil w).drew).alloc _).alloc _) HR.out.1 HR.out.2.1 HR.out.2.2 (Wrote.refl Nil w2) ((HR.out.2.2.block (w.heap.size + 1) ((by have e : ((w.alloc (.cells A 3)).alloc (.cells A 3)).heap.size = w.heap.size + 1 + 1 := (by rw [Go.Deep.nblk_alloc, Go.Deep.nblk_alloc]); show w.heap.size + 1 < ((w.alloc (.cells A 3)).alloc (.cells A 3)).heap.size; omega)) id).trans (two_1 w (.cells A 3) (.cells A 3))) ((HR.out.2.2.block w.heap.size ((by have e : ((w.alloc (.cells A 3)).alloc (.cells A 3)).heap.size = w.heap.size + 1 + 1 := (by rw [Go.Deep.nblk_alloc, Go.Deep.nblk_alloc]); show w.heap.size < ((w.alloc (.cells A 3)).alloc (.cells A 3)).heap.size; omega)) id).trans (two_0 w (.cells A 3) (.cells A 3))) (by exact .inl ⟨Nat.le_succ _, (by have e : ((w.alloc (.cells A 3)).alloc (.cells A 3)).heap.size = w.heap.size + 1 + 1 := (by rw [Go.Deep.nblk_alloc, Go.Deep.nblk_alloc]); show w.heap.size + 1 < ((w.alloc (.cells A 3)).alloc (.cells A 3)).heap.size; omega)⟩) (by exact .inl ⟨Nat.le_refl _, (by have e : ((w.alloc (.cells A 3)).alloc (.cells A 3)).heap.size = w.heap.size + 1 + 1 := (by rw [Go.Deep.nblk_alloc, Go.Deep.nblk_alloc]); show w.heap.size < ((w.alloc (.cells A 3)).alloc (.cells A 3)).heap.size; omega)⟩) (by omega) rfl _ rfl
  case rest =>
    clear hmk cS HA A
    unfold MkPost at hcut
    obtain ⟨r, sr, hv, dv, pc, mn, rfl, hM⟩ := hcut
    obtain ⟨B, hB⟩ : ∃ B, B = wc.heap.size := ⟨_, rfl⟩
    rw [← hB] at hM
    have HM := Lib.hid (And.intro hM hB)
    clear hM hB
    go_wp2
    go_loopw [6] (fun v6 wr => ∃ (k : Nat) (v : Value), k ≤ n ∧ v6 = .int .i64 k ∧ MkL w wr B n a r sr hv dv pc mn k v) (fun v6 _ => n - (intOf v6).toNat)
    case atStart => exact ⟨0, .slice none 0 0, Nat.zero_le _, rfl, HM.out.1, World.ownsRow_nil _ _ _ _, by rw [HM.out.2]; exact Nat.le_refl _⟩
    case round =>
      obtain ⟨k, v, hk, rfl, hL⟩ := hrel
      by_cases hlt : k < n
      · obtain ⟨so, cp, rfl⟩ := own_form hL.own
        have c3 := hL.am.cell3
        have hown := hL.own
        have hsz := hL.sz
        have hwk : IntKind.i64.wrap ((k : Int) + 1) = (k : Int) + 1 := by rw [IntKind.wrap_i64]; omega
        have key : ∀ (w1 : World) (v' : Value), w1.ownsRow B 3 1 v' (k + 1) (ones1 k ++ [.int .i64 ((k : Int) + 1)]) → (wr.alloc (.cells #[.int .i64 ((k : Int) + 1)] 3)).grownBy w1 (Value.slice so k cp).ownBlock → MkA w w1 B n a r sr hv dv pc mn (.slice so k cp) ∧ MkL w (w1.setCell ⟨r, 3, none⟩ v') B n a r sr hv dv pc mn (k + 1) v' := fun w1 v' ho hg => by
          have k0 : Wrote Nil wr (wr.alloc (.cells #[.int .i64 ((k : Int) + 1)] 3)) := (Wrote.refl _ wr).alloc _
          have hM1 := hL.am.after k0
          have k1 : Wrote (fun b => (Value.slice so k cp).ownBlock = some b) (wr.alloc (.cells #[.int .i64 ((k : Int) + 1)] 3)) w1 := (Wrote.refl _ _).grown hg fun b hb _ => hb
          have hM2 := hM1.apart k1 fun b _ e => (hL.own.lt b e).1
          refine ⟨hM2, hM2.set3 v', ?_, ?_⟩
          · rw [ones1_more]
            refine ownsRow_keep ho fun j hj => ?_
            have hj1 := ho.lt j hj
            have kr : Wrote (One r) w1 (w1.setCell ⟨r, 3, none⟩ v') := (Wrote.refl _ w1).setCell _ _ fun _ => rfl
            exact kr.block j hj1.2 fun e => by have e : j = r := e; have := hM2.low.1; omega
          · rw [Go.Deep.nblk_setCell]
            have := k0.size
            have := k1.size
            omega
        have HK := Lib.hid key
        clear key hL
        go_wp2_with (at_builtin; refine wpList_append_own _ rfl _ _ 22 rfl B 3 i0 (.int .i64 0) 1 8 Try.underlying22 hi hz0 hz1 hz2 rfl (by decide) _ _ _ rfl (hown.alloc _) ⟨wr.heap.size, 0, none⟩ 1 1 [.int .i64 ((k : Int) + 1)] rfl rfl ?c1 ?c2 ?c3 ?c4 ?c5 ?_)
        case c1 =>
          intro j u hj
          match j, hj with
          | 0, hj => simp at hj; subst hj; simp [Addr.add]
        case c2 => intro u hu; simp at hu; subst hu; rfl
        case c3 => unfold maxLen; omega
        case c4 => omega
        case c5 => simp; omega
        · intro v' w1 hown' hgrow _
          obtain ⟨hM2, hL2⟩ := HK.out _ _ hown' hgrow
          obtain ⟨so', cp', rfl⟩ := own_form hown'
          have f3 := hM2.cell3
          have z3 := hM2.frz
          have HN := Lib.hid hL2
          clear hM2 hL2 hown' hgrow
          go_wp2
          go_roundw
          case rel => exact ⟨k + 1, _, by omega, by go_num, HN.out⟩
          case measure => simp [intOf]; omega
      · obtain rfl : k = n := by omega
        have HN := Lib.hid (mk_done hL n1 (by rw [HM.out.2]; exact HM.out.1.wr.size))
        clear hL HM
        go_wp2
        go_ret
        exact HN.out

/-! ### its homes -/
theorem lit_two {w W : World} (k : Wrote Nil w W) (e : TypeId) (x y : Value) : Grow e 1 w w.heap.size (W.alloc (.cells #[x, y] e)) 2 [x, y] (.slice (some ⟨W.heap.size, 0, none⟩) 2 2) :=
  ⟨World.ownsRow_lit W #[x, y] 2 k.size (by decide) rfl, k.alloc _, by rw [Go.Deep.nblk_alloc]; have := k.size; omega, Nat.le_refl _⟩
def HomesNewPost (w : World) (zs : List Int) (n : Nat) (e : Ending) (w' : World) : Prop := ∃ g cap, e = .returned (.slice (some ⟨g, 0, none⟩) (n + 2) cap) ∧ RowAt .i64 w' (some ⟨g, 0, none⟩) (n + 2) ([zs.getD 0 0] ++ [zs.getD 0 0] ++ zs) ∧ Wrote Nil w w'
set_option maxHeartbeats 2000000 in
theorem ml_homes {w : World} {b o n cp : Nat} {zs : List Int} (hr : RowAt .i64 w (some ⟨b, o, none⟩) n zs) (n1 : 1 ≤ n) (n64 : n ≤ 64) : Calls Try.prog 13 #[.slice (some ⟨b, o, none⟩) n cp] w (HomesNewPost w zs n) := by
  obtain ⟨i0, hi, hz0, hz1, hz2⟩ := info_parts info_int
  have hc := hr.cell ⟨b, o, none⟩ rfl 0 (by omega)
  have hc : w.cell? ⟨b, o, none⟩ = some (.int .i64 (zs.getD 0 0)) := hc
  obtain ⟨x, hx⟩ : ∃ x, x = zs.getD 0 0 := ⟨_, rfl⟩
  unfold HomesNewPost
  rw [← hx] at hc ⊢
  have HR := Lib.hid hr
  have n0 : (0 : Nat) < n := n1
  have i1 : (0 : Int) < n := by omega
  clear hr hx
  go_enter Try.func13, Try.ntmps13
  go_upto_region 1 with fail
  go_cut [3] from 4 to 10 (fun v3 wx => Grow 3 1 w w.heap.size wx 2 [.int .i64 x, .int .i64 x] v3)
  case first =>
    go_region
    all_goals
      go_wp2
      go_meet
      first
        | exact lit_two ((Wrote.refl Nil w).drew) _ _ _
        | exact (lit_two (Wrote.refl Nil w) _ _ _).after ((Wrote.refl Nil _).drew)
  case rest =>
    clear hc
    have hown := hcut.own
    have HG := Lib.hid hcut
    have hs := hcut.wrote.size
    clear hcut
    go_wp2_with (at_builtin; refine wpList_append_own _ rfl _ _ 22 rfl w.heap.size 3 i0 (.int .i64 0) 1 8 Try.underlying22 hi hz0 hz1 hz2 rfl (by decide) _ _ _ rfl hown ⟨b, o, none⟩ n cp (zs.map (.int .i64)) rfl ?c0 ?c1 ?c2 ?c3 ?c4 ?c5 ?_)
    case c0 => rw [List.length_map, HR.out.len]; omega
    case c1 =>
      intro j u hj
      rw [List.getElem?_map] at hj
      obtain ⟨y, hy, rfl⟩ := Option.map_eq_some_iff.1 hj
      have hjn : j < n := by rw [← HR.out.len]; exact (List.getElem?_eq_some_iff.1 hy).1
      have := (HR.out.after HG.out.wrote).cell _ rfl j hjn
      rw [this, List.getD_eq_getElem?_getD, hy]
      rfl
    case c2 => intro u hu; obtain ⟨y, _, rfl⟩ := List.mem_map.1 hu; rfl
    case c3 => unfold maxLen; omega
    case c4 => omega
    case c5 => exact hs
    · intro v' w1 hown' hgrow _
      have hG := HG.out.more hown' hgrow
      have e : [Value.int .i64 x, .int .i64 x] ++ zs.map (.int .i64) = ([x] ++ [x] ++ zs).map (.int .i64) := by simp
      have ho := hG.own
      rw [e, Nat.add_comm] at ho
      obtain ⟨g, cap, rfl, hrow⟩ := own_row ho (by omega)
      have HX := Lib.hid (And.intro hrow hG.wrote)
      clear hown' hgrow hG ho hrow e
      go_wp2
      go_ret
      exact ⟨g, cap, by rw [Nat.add_comm n 2]; rfl, HX.out.1.2.2.2.1, HX.out.2⟩
end Go.Proofs.Ytmoiehaabknleaa
