/- Seats, and the reference's beside them in a law's memory: the calls as the law makes them. -/
import Derived.Test.YtkmikkjjnbikdaaGreatSeatNew
import Derived.Maps.AppendAt
import Derived.BigRegion
import Derived.BigQuiet
import Derived.Deep.Cut
import Derived.BigFrame
namespace Go.Proofs.YtkmikkjjnbikdaaGreat
open Go.RowKit
set_option linter.unusedVariables false
set_option maxRecDepth 100000

theorem sinfo_int : (Tryz.prog.info? 3).map (fun i => (i.zero, i.size, i.bytes)) = some (some (.int .i64 0), 1, 8) := by kernel_rfl

def SF (r : Nat) (hv dv : Value) (k : Nat) : Prop := k = r ∨ hv.ownBlock = some k ∨ dv.ownBlock = some k
/-- two rows of numbers, the states and the deadlines, in a struct -/
structure SrAt (w : World) (r : Nat) (hv dv : Value) (n m : Nat) (xs ys : List Int) (timed probed : Bool) : Prop where
  obj : w.heap[r]? = some (.cells #[hv, dv, .bool timed, .bool probed] 100 (0, 0))
  st : w.ownsRow 0 3 1 hv n (xs.map (Value.int .i64))
  dl : w.ownsRow 0 3 1 dv m (ys.map (Value.int .i64))
  apart : ∀ k, hv.ownBlock = some k → dv.ownBlock = some k → False
  low : hv.ownBlock ≠ some r ∧ dv.ownBlock ≠ some r

theorem s_form {w : World} {base : Nat} {e : TypeId} {size : Nat} {v : Value} {n : Nat} {xs : List Value} (h : w.ownsRow base e size v n xs) : ∃ so cap, v = .slice so n cap := by
  obtain ⟨so, cap, e, _⟩ := own_slice h
  exact ⟨so, cap, e⟩
/-- the one cell of what is appended -/
theorem s_one (A : World) (x : Value) (t : TypeId) (b : Nat) (hb : b = A.heap.size) : ∀ j u, [x][j]? = some u → (A.alloc (.cells #[x] t)).cell? ((⟨b, 0, none⟩ : Addr).add j) = some u := by
  subst hb
  intro j u hu
  have hj : j < 1 := (List.getElem?_eq_some_iff.1 hu).1
  obtain rfl : j = 0 := by omega
  rw [Go.Addr.add_lit, Nat.zero_add, blk_cell (Go.Deep.blk_alloc_new A _)]
  exact hu

namespace SrAt
variable {w w' w1 : World} {r : Nat} {hv dv hv' dv' : Value} {n m : Nat} {xs ys : List Int} {timed probed : Bool}
theorem lt (h : SrAt w r hv dv n m xs ys timed probed) {k : Nat} (hk : SF r hv dv k) : k < w.heap.size := by
  rcases hk with rfl | x | x
  · exact blk_lt h.obj
  · exact (h.st.lt k x).2
  · exact (h.dl.lt k x).2
theorem wrote {S : Nat → Prop} (h : SrAt w r hv dv n m xs ys timed probed) (k : Wrote S w w') (hS : ∀ b, SF r hv dv b → ¬ S b) : SrAt w' r hv dv n m xs ys timed probed :=
  ⟨(k.block r (blk_lt h.obj) (hS _ (.inl rfl))).trans h.obj, ownsRow_keep h.st fun j hj => k.block j (h.lt (.inr (.inl hj))) (hS j (.inr (.inl hj))), ownsRow_keep h.dl fun j hj => k.block j (h.lt (.inr (.inr hj))) (hS j (.inr (.inr hj))), h.apart, h.low⟩
theorem after (h : SrAt w r hv dv n m xs ys timed probed) (k : Wrote Nil w w') : SrAt w' r hv dv n m xs ys timed probed := h.wrote k fun _ _ => id
theorem cell0 (h : SrAt w r hv dv n m xs ys timed probed) : w.cell? ⟨r, 0, none⟩ = some hv := by rw [blk_cell h.obj]; rfl
theorem frozen (h : SrAt w r hv dv n m xs ys timed probed) (k : Nat) : w.frozen? ⟨r, k, none⟩ = false := blk_frozen h.obj k

/-- a state more -/
theorem grow0 (h : SrAt w r hv dv n m xs ys timed probed) {o : Obj} {x : Int} (hown : w1.ownsRow 0 3 1 hv' (n + 1) (xs.map (Value.int .i64) ++ [.int .i64 x])) (hg : (w.alloc o).grownBy w1 hv.ownBlock) (hat : hv'.ownBlock = hv.ownBlock ∨ hv'.ownBlock = some (w.alloc o).heap.size) :
    w1.heap[r]? = w.heap[r]? ∧ SrAt (w1.setCell ⟨r, 0, none⟩ hv') r hv' dv (n + 1) m (xs ++ [x]) ys timed probed ∧ Wrote (SF r hv dv) w (w1.setCell ⟨r, 0, none⟩ hv') ∧ ∀ k, SF r hv' dv k → SF r hv dv k ∨ w.heap.size ≤ k := by
  have hW1 : Wrote (fun k => hv.ownBlock = some k) w w1 := ((Wrote.refl _ w).alloc o).grown hg fun k hk _ => hk
  have hr := hW1.block r (blk_lt h.obj) h.low.1
  have hsz : w.heap.size < (w.alloc o).heap.size := by rw [Go.Deep.nblk_alloc]; omega
  have hB : Wrote (One r) w1 (w1.setCell ⟨r, 0, none⟩ hv') := (Wrote.refl _ w1).setCell _ _ fun _ => rfl
  have hne : ∀ k, hv'.ownBlock = some k → k ≠ r ∧ dv.ownBlock ≠ some k := fun k hk => by
    rcases hat with e | e
    · rw [e] at hk
      exact ⟨fun e2 => h.low.1 (by rw [← e2]; exact hk), fun e2 => h.apart k hk e2⟩
    · rw [e] at hk
      have e' : (w.alloc o).heap.size = k := by simpa using hk
      exact ⟨fun e2 => by have := blk_lt h.obj; omega, fun e2 => by have := (h.dl.lt k e2).2; omega⟩
  refine ⟨hr, ⟨?_, ?_, ?_, fun k h1 h2 => (hne k h1).2 h2, fun e => (hne _ e).1 rfl, h.low.2⟩, (hW1.mono fun _ _ e => .inr (.inl e)).trans hB fun b _ e => by cases e; exact .inl rfl, fun k hk => ?_⟩
  · rw [blk_setCell (hr.trans h.obj)]; rfl
  · rw [List.map_append]
    exact ownsRow_keep hown fun b hb => hB.block b (hown.lt b hb).2 (hne b hb).1
  · refine ownsRow_keep (ownsRow_keep h.dl fun b hb => hW1.block b (h.dl.lt b hb).2 fun e => h.apart b e hb) fun b hb => hB.block b (Nat.lt_of_lt_of_le (h.dl.lt b hb).2 hW1.size) fun e => h.low.2 (by cases e; exact hb)
  · rcases hk with x | x | x
    · exact .inl (.inl x)
    · rcases hat with e | e
      · exact .inl (.inr (.inl (e ▸ x)))
      · rw [e] at x
        have e' : (w.alloc o).heap.size = k := by simpa using x
        exact .inr (by omega)
    · exact .inl (.inr (.inr x))
/-- a deadline more -/
theorem grow1 (h : SrAt w r hv dv n m xs ys timed probed) {o : Obj} {x : Int} (hown : w1.ownsRow 0 3 1 dv' (m + 1) (ys.map (Value.int .i64) ++ [.int .i64 x])) (hg : (w.alloc o).grownBy w1 dv.ownBlock) (hat : dv'.ownBlock = dv.ownBlock ∨ dv'.ownBlock = some (w.alloc o).heap.size) :
    w1.heap[r]? = w.heap[r]? ∧ SrAt (w1.setCell ⟨r, 1, none⟩ dv') r hv dv' n (m + 1) xs (ys ++ [x]) timed probed ∧ Wrote (SF r hv dv) w (w1.setCell ⟨r, 1, none⟩ dv') ∧ ∀ k, SF r hv dv' k → SF r hv dv k ∨ w.heap.size ≤ k := by
  have hW1 : Wrote (fun k => dv.ownBlock = some k) w w1 := ((Wrote.refl _ w).alloc o).grown hg fun k hk _ => hk
  have hr := hW1.block r (blk_lt h.obj) h.low.2
  have hsz : w.heap.size < (w.alloc o).heap.size := by rw [Go.Deep.nblk_alloc]; omega
  have hB : Wrote (One r) w1 (w1.setCell ⟨r, 1, none⟩ dv') := (Wrote.refl _ w1).setCell _ _ fun _ => rfl
  have hne : ∀ k, dv'.ownBlock = some k → k ≠ r ∧ hv.ownBlock ≠ some k := fun k hk => by
    rcases hat with e | e
    · rw [e] at hk
      exact ⟨fun e2 => h.low.2 (by rw [← e2]; exact hk), fun e2 => h.apart k e2 hk⟩
    · rw [e] at hk
      have e' : (w.alloc o).heap.size = k := by simpa using hk
      exact ⟨fun e2 => by have := blk_lt h.obj; omega, fun e2 => by have := (h.st.lt k e2).2; omega⟩
  refine ⟨hr, ⟨?_, ?_, ?_, fun k h1 h2 => (hne k h2).2 h1, h.low.1, fun e => (hne _ e).1 rfl⟩, (hW1.mono fun _ _ e => .inr (.inr e)).trans hB fun b _ e => by cases e; exact .inl rfl, fun k hk => ?_⟩
  · rw [blk_setCell (hr.trans h.obj)]; rfl
  · refine ownsRow_keep (ownsRow_keep h.st fun b hb => hW1.block b (h.st.lt b hb).2 fun e => h.apart b hb e) fun b hb => hB.block b (Nat.lt_of_lt_of_le (h.st.lt b hb).2 hW1.size) fun e => h.low.1 (by cases e; exact hb)
  · rw [List.map_append]
    exact ownsRow_keep hown fun b hb => hB.block b (hown.lt b hb).2 (hne b hb).1
  · rcases hk with x | x | x
    · exact .inl (.inl x)
    · exact .inl (.inr (.inl x))
    · rcases hat with e | e
      · exact .inl (.inr (.inr (e ▸ x)))
      · rw [e] at x
        have e' : (w.alloc o).heap.size = k := by simpa using x
        exact .inr (by omega)
end SrAt

/-- the reference's seats, its states and deadlines those of seats -/
def SS.dlS (s : SS) (t : Nat) : Int := if s.st t = 1 then s.dl t else -1
def stL (s : SS) : List Int := (List.range s.n).map s.st
def dlL (s : SS) : List Int := (List.range s.n).map s.dlS
def RsAt (w : World) (r : Nat) (hv dv : Value) (s : SS) : Prop := SrAt w r hv dv s.n s.n (stL s) (dlL s) s.timed s.probed

structure RsMk (w : World) (r n m : Nat) (timed probed : Bool) (hv dv : Value) (wr : World) : Prop where
  at_ : SrAt wr r hv dv n m (List.replicate n 0) (List.replicate m (-1)) timed probed
  new : ∀ k, SF r hv dv k → w.heap.size ≤ k
  wrote : Wrote Nil w wr
def RsSt (w : World) (r n m : Nat) (timed probed : Bool) (wr : World) : Prop := ∃ hv dv, RsMk w r n m timed probed hv dv wr
def RsNewPost (w : World) (n : Nat) (timed probed : Bool) (e : Ending) (w' : World) : Prop := ∃ r hv dv, e = .returned (.pointer (some ⟨r, 0, none⟩)) ∧ RsAt w' r hv dv (newSeat n timed probed) ∧ (∀ k, SF r hv dv k → w.heap.size ≤ k) ∧ Wrote Nil w w'
theorem rep_snoc (k : Nat) (x : Int) : List.replicate k x ++ [x] = List.replicate (k + 1) x := by rw [← List.replicate_succ']

theorem RsMk.grow0 {w wr w1 : World} {r n m : Nat} {timed probed : Bool} {hv dv hv' : Value} (h : RsMk w r n m timed probed hv dv wr) {o : Obj} (hown : w1.ownsRow 0 3 1 hv' (n + 1) ((List.replicate n (0 : Int)).map (Value.int .i64) ++ [.int .i64 0])) (hg : (wr.alloc o).grownBy w1 hv.ownBlock) (hat : hv'.ownBlock = hv.ownBlock ∨ hv'.ownBlock = some (wr.alloc o).heap.size) :
    w1.heap[r]? = wr.heap[r]? ∧ RsMk w r (n + 1) m timed probed hv' dv (w1.setCell ⟨r, 0, none⟩ hv') := by
  obtain ⟨h1, h2, h3, h4⟩ := h.at_.grow0 hown hg hat
  rw [rep_snoc] at h2
  refine ⟨h1, h2, fun k hk => ?_, h.wrote.trans h3 fun b hb x => absurd (h.new b x) (by omega)⟩
  rcases h4 k hk with x | x
  · exact h.new k x
  · exact Nat.le_trans h.wrote.size x
theorem RsMk.grow1 {w wr w1 : World} {r n m : Nat} {timed probed : Bool} {hv dv dv' : Value} (h : RsMk w r n m timed probed hv dv wr) {o : Obj} (hown : w1.ownsRow 0 3 1 dv' (m + 1) ((List.replicate m (-1 : Int)).map (Value.int .i64) ++ [.int .i64 (-1)])) (hg : (wr.alloc o).grownBy w1 dv.ownBlock) (hat : dv'.ownBlock = dv.ownBlock ∨ dv'.ownBlock = some (wr.alloc o).heap.size) :
    w1.heap[r]? = wr.heap[r]? ∧ RsMk w r n (m + 1) timed probed hv dv' (w1.setCell ⟨r, 1, none⟩ dv') := by
  obtain ⟨h1, h2, h3, h4⟩ := h.at_.grow1 hown hg hat
  rw [rep_snoc] at h2
  refine ⟨h1, h2, fun k hk => ?_, h.wrote.trans h3 fun b hb x => absurd (h.new b x) (by omega)⟩
  rcases h4 k hk with x | x
  · exact h.new k x
  · exact Nat.le_trans h.wrote.size x
theorem rs_start (w : World) (timed probed : Bool) : RsSt w w.heap.size 0 0 timed probed (w.alloc (.cells #[.slice none 0 0, .slice none 0 0, .bool timed, .bool probed] 100)) := by
  refine ⟨.slice none 0 0, .slice none 0 0, ⟨Go.Deep.blk_alloc_new _ _, World.ownsRow_nil _ _ _ _, World.ownsRow_nil _ _ _ _, fun k h => by simp [Value.ownBlock] at h, by simp [Value.ownBlock], by simp [Value.ownBlock]⟩, fun k hk => ?_, (Wrote.refl _ _).alloc _⟩
  rcases hk with rfl | x | x
  · exact Nat.le_refl _
  · simp [Value.ownBlock] at x
  · simp [Value.ownBlock] at x

set_option maxHeartbeats 2000000 in
theorem rs_new (n : Nat) (timed probed : Bool) (hn : n ≤ 64) (w : World) :
    Calls Tryz.prog 32 #[.int .i64 (n : Int), .bool timed, .bool probed] w (RsNewPost w n timed probed) := by
  obtain ⟨i0, hi, hz0, hz1, hz2⟩ := info_parts sinfo_int
  have h0 := rs_start w timed probed
  go_enter Tryz.func32, Tryz.ntmps32
  go_wp2
  generalize w.alloc (.cells #[.slice none 0 0, .slice none 0 0, .bool timed, .bool probed] 100) = w0 at h0 ⊢
  obtain ⟨r, hr⟩ : ∃ r, r = w.heap.size := ⟨_, rfl⟩
  rw [← hr] at h0 ⊢
  have HR := Lib.hid hr
  clear hr
  go_loopw [8] (fun i wr => ∃ k : Nat, k ≤ n ∧ i = .int .i64 k ∧ RsSt w r k k timed probed wr) (fun i _ => n - (intOf i).toNat)
  case atStart => exact ⟨0, Nat.zero_le _, rfl, h0⟩
  case round =>
    clear h0
    obtain ⟨k, hk, rfl, hv, dv, hR⟩ := hrel
    by_cases hlt : k < n
    · have c0 := hR.at_.cell0
      have f0 := hR.at_.frozen 0
      have own1 : ∀ o, (wr.alloc o).ownsRow 0 3 1 hv k ((List.replicate k (0 : Int)).map (Value.int .i64)) := fun o => hR.at_.st.alloc _
      have kH := fun (o : Obj) (hv' : Value) (w1 : World) g1 g2 g3 => hR.grow0 (o := o) (hv' := hv') (w1 := w1) g1 g2 g3
      have hml : k + 1 ≤ maxLen := by unfold maxLen; omega
      have hobj := hR.at_.obj
      have HO := Lib.hid hobj
      clear hR hobj
      go_wp2_with (first
        | (at_builtin; refine wpList_append_own_at _ rfl (.tmp 22) (.tmp 23) 22 rfl 0 3 i0 (.int .i64 0) 1 8 Tryz.underlying22 hi hz0 hz1 hz2 rfl (by decide) hv k _ rfl (own1 _) _ 1 1 [.int .i64 0] rfl rfl (s_one _ _ _ _ rfl) (by simp [Value.oneCell']) hml (by omega) (Nat.zero_le _) ?_; intro hv' w1 g1 g2 _ g3; obtain ⟨so, cp, rfl⟩ := s_form g1; obtain ⟨r1, hR2⟩ := kH _ _ _ g1 g2 g3; rw [HO.out] at r1; clear kH own1 g1 g2 g3; have e0 := (blk_cell r1 0).trans rfl; have e1 := (blk_cell r1 1).trans rfl; have f1 := blk_frozen r1 0; have f2 := blk_frozen r1 1; have own2 : ∀ o, ((w1.setCell ⟨r, 0, none⟩ (.slice so (k + 1) cp)).alloc o).ownsRow 0 3 1 dv k ((List.replicate k (-1 : Int)).map (Value.int .i64)) := fun o => hR2.at_.dl.alloc _; have kV := fun (o : Obj) (dv' : Value) (w3 : World) g1 g2 g3 => hR2.grow1 (o := o) (dv' := dv') (w1 := w3) g1 g2 g3; have hobj2 := hR2.at_.obj; have HO2 := Lib.hid hobj2; clear hR2 hobj2)
        | (at_builtin; refine wpList_append_own_at _ rfl (.tmp 31) (.tmp 32) 22 rfl 0 3 i0 (.int .i64 0) 1 8 Tryz.underlying22 hi hz0 hz1 hz2 rfl (by decide) dv k _ rfl (own2 _) _ 1 1 [.int .i64 (-1)] rfl rfl (s_one _ _ _ _ (Go.Deep.nblk_setCell _ _ _).symm) (by simp [Value.oneCell']) hml (by omega) (Nat.zero_le _) ?_; intro dv' w3 g1 g2 _ g3; obtain ⟨sv, cv, rfl⟩ := s_form g1; obtain ⟨r3, hR3⟩ := kV _ _ _ g1 g2 g3; rw [HO2.out] at r3; clear kV own2 g1 g2 g3; have e4 := (blk_cell r3 1).trans rfl; have f4 := blk_frozen r3 1; have T := Lib.hid hR3; clear hR3))
      go_roundw
      case rel => exact ⟨k + 1, by omega, by go_num, _, _, T.out⟩
      case measure => simp [intOf]; omega
    · obtain rfl : k = n := by omega
      go_wp2
      go_ret
      refine ⟨r, hv, dv, rfl, ?_, hR.new, hR.wrote⟩
      have e1 : stL (newSeat k timed probed) = List.replicate k 0 := by
        rw [List.eq_replicate_iff]
        exact ⟨by simp [stL, newSeat], fun b hb => by obtain ⟨i, _, rfl⟩ := List.mem_map.1 hb; rfl⟩
      have e2 : dlL (newSeat k timed probed) = List.replicate k (-1) := by
        rw [List.eq_replicate_iff]
        exact ⟨by simp [dlL, newSeat], fun b hb => by obtain ⟨i, _, rfl⟩ := List.mem_map.1 hb; exact if_neg (by show ¬ (0 : Int) = 1; decide)⟩
      show SrAt wr r hv dv k k (stL (newSeat k timed probed)) (dlL (newSeat k timed probed)) timed probed
      rw [e1, e2]
      exact hR.at_
end Go.Proofs.YtkmikkjjnbikdaaGreat
namespace Go.Proofs.YtkmikkjjnbikdaaGreat
open Go.RowKit
set_option linter.unusedVariables false
set_option maxRecDepth 100000

namespace SrAt
variable {w : World} {r : Nat} {hv dv : Value} {n m : Nat} {xs ys : List Int} {timed probed : Bool}
end SrAt

theorem RsAt.after {w w' : World} {r : Nat} {hv dv : Value} {s : SS} (h : RsAt w r hv dv s) (k : Wrote Nil w w') : RsAt w' r hv dv s := SrAt.after h k
end Go.Proofs.YtkmikkjjnbikdaaGreat
namespace Go.Proofs.YtkmikkjjnbikdaaGreat
open Go.RowKit Go.BigFrame
set_option linter.unusedVariables false
set_option maxRecDepth 100000

end Go.Proofs.YtkmikkjjnbikdaaGreat
namespace Go.Proofs.YtkmikkjjnbikdaaGreat
open Go.RowKit
set_option linter.unusedVariables false
set_option maxRecDepth 100000

namespace SpAt
variable {w wr W : World} {p b r B : Nat} {hv dv : Value} {s s' : SS}
end SpAt
section
variable {w W : World} {p b r B : Nat} {hv dv : Value} {s s' : SS}
end
end Go.Proofs.YtkmikkjjnbikdaaGreat
