/- The contract of flat.New: a new lock of so many contexts, all Idle, its two words laid behind the plan's. -/
import Derived.Test.YtkmikkjjnbikdaaGreatFlatEnd
import Derived.Test.YtkmikkjjnbikdaaGreatHomed
import Derived.BigRegion
namespace Go.Proofs.YtkmikkjjnbikdaaGreat.Kf
open Go.RowKit Go.BigFrame
set_option linter.unusedVariables false
set_option maxRecDepth 100000

/-! ### a word -/
/-- the boxes of what came in, as New's function for a word reads them -/
structure Bx (w : World) (P b o n cap : Nat) (pp : Nat) (x v : Int) : Prop where
  c0 : w.cell? ⟨P, 0, none⟩ = some (.pointer (some ⟨pp, 0, none⟩))
  c1 : w.cell? ⟨P + 1, 0, none⟩ = some (.slice (some ⟨b, o, none⟩) n cap)
  c2 : w.cell? ⟨P + 1 + 1, 0, none⟩ = some (.int .u32 v)
  c3 : w.cell? ⟨b, o, none⟩ = some (.int .i64 x)
theorem Bx.wrote {w w' : World} {P b o n cap pp : Nat} {x v : Int} {S : Nat → Prop} (h : Bx w P b o n cap pp x v) (k : Wrote S w w') (h0 : ¬ S P) (h1 : ¬ S (P + 1)) (h2 : ¬ S (P + 1 + 1)) (h3 : ¬ S b) : Bx w' P b o n cap pp x v :=
  ⟨k.cell h.c0 h0, k.cell h.c1 h1, k.cell h.c2 h2, k.cell h.c3 h3⟩
theorem fn_word {w : World} {q : Pl} {t : Int} {hs vs : List Int} (h : PlanAt w q t hs vs) {P b o n cap : Nat} {x v : Int} (hB : Bx w P b o n cap q.p x v) (n1 : 1 ≤ n) (n2 : n ≤ 64) (hL : hs.length ≤ 1000000)
    (h0 : ¬ q.F P) (h1 : ¬ q.F (P + 1)) (h2 : ¬ q.F (P + 1 + 1)) (h3 : ¬ q.F b) :
    Calls Tryz.prog 83 #[.pointer (some ⟨P, 0, none⟩), .pointer (some ⟨P + 1, 0, none⟩), .pointer (some ⟨P + 1 + 1, 0, none⟩)] w (PlanPost w q t (hs ++ [x]) (vs ++ [v]) (.int .i64 (hs.length : Nat))) := by
  have cW := plword_any (h.after ((Wrote.refl Nil w).drew)) x v hL
  obtain ⟨c0, c1, c2, c3⟩ := hB
  have k1 : (0 : Int) < n := by omega
  have k2 : ¬ ((n : Int) ≤ 0) := by omega
  have k3 : (0 : Nat) < n := n1
  have HE := Lib.hid (And.intro h0 (And.intro h1 (And.intro h2 h3)))
  clear h h0 h1 h2 h3
  go_enter Tryz.func83, Tryz.ntmps83
  go_wp2
  go_region_held3 (fun w' => w'.cell? ⟨P, 0, none⟩ = some (.pointer (some ⟨q.p, 0, none⟩)) ∧ w'.cell? ⟨P + 1, 0, none⟩ = some (.slice (some ⟨b, o, none⟩) n cap) ∧ w'.cell? ⟨P + 1 + 1, 0, none⟩ = some (.int .u32 v) ∧ w'.cell? ⟨b, o, none⟩ = some (.int .i64 x)) (first | exact ⟨c0, c1, c2, c3⟩ | exact ⟨d0, d1, d2, d3⟩) (first | (go_at_call 44; (with_reducible refine cW.mono ?_); intro e w2 hq; unfold PlanPost at hq; obtain ⟨rfl, q', hq', hP, hW, hC⟩ := hq; have d0 := ((Wrote.refl q.F w).drew.trans hW fun _ _ e => e).cell c0 HE.out.1; have d1 := ((Wrote.refl q.F w).drew.trans hW fun _ _ e => e).cell c1 HE.out.2.1; have d2 := ((Wrote.refl q.F w).drew.trans hW fun _ _ e => e).cell c2 HE.out.2.2.1; have d3 := ((Wrote.refl q.F w).drew.trans hW fun _ _ e => e).cell c3 HE.out.2.2.2; have HT := Lib.hid (And.intro hq' (And.intro hP (And.intro hW hC))); clear hq' hP hW hC))
  go_wp2
  go_ret
  obtain ⟨g1, g2, g3, g4⟩ := HT.out
  exact ⟨rfl, q', g1, g2, (Wrote.refl q.F w).drew.trans g3 fun _ _ e => e, g4⟩

/-- amid New: so many words are laid -/
structure Mid (wq : World) (q : Pl) (t : Int) (P b o n cap : Nat) (x v : Int) (W : World) (q' : Pl) (hs vs : List Int) : Prop where
  plan : PlanAt W q' t hs vs
  bx : Bx W P b o n cap q'.p x v
  pq : q'.p = q.p
  wr : Wrote q.F wq W
  came : Came wq q.F q'.F
  far : P + 1 + 1 < wq.heap.size ∧ b < wq.heap.size ∧ ¬ q.F P ∧ ¬ q.F (P + 1) ∧ ¬ q.F (P + 1 + 1) ∧ ¬ q.F b
def MidPost (wq : World) (q : Pl) (t : Int) (P b o n cap : Nat) (x v : Int) (hs vs : List Int) (q0 : Pl) (W0 : World) (r : Value) (e : Ending) (W : World) : Prop := ∃ q', e = .returned r ∧ Mid wq q t P b o n cap x v W q' hs vs ∧ Wrote q0.F W0 W ∧ Came W0 q0.F q'.F
namespace Mid
variable {wq : World} {q : Pl} {t : Int} {P b o n cap : Nat} {x v : Int} {W W' : World} {q' : Pl} {hs vs : List Int}
theorem after (h : Mid wq q t P b o n cap x v W q' hs vs) (k : Wrote Nil W W') : Mid wq q t P b o n cap x v W' q' hs vs :=
  ⟨h.plan.after k, h.bx.wrote k id id id id, h.pq, h.wr.trans k fun _ _ e => e.elim, h.came, h.far⟩
theorem off (h : Mid wq q t P b o n cap x v W q' hs vs) {k : Nat} (hk : k < wq.heap.size) (hn : ¬ q.F k) : ¬ q'.F k := fun e => by
  rcases h.came k e with e | e
  · exact hn e
  · omega
theorem word (h : Mid wq q t P b o n cap x v W q' hs vs) (n1 : 1 ≤ n) (n2 : n ≤ 64) (hL : hs.length ≤ 1000000) (k : Wrote Nil W W') :
    Calls Tryz.prog 83 #[.pointer (some ⟨P, 0, none⟩), .pointer (some ⟨P + 1, 0, none⟩), .pointer (some ⟨P + 1 + 1, 0, none⟩)] W' (MidPost wq q t P b o n cap x v (hs ++ [x]) (vs ++ [v]) q' W' (.int .i64 (hs.length : Nat))) := by
  have h' := h.after k
  obtain ⟨f1, f2, f3, f4, f5, f6⟩ := h.far
  have o1 := h'.off (show P < wq.heap.size by omega) f3
  have o2 := h'.off (show P + 1 < wq.heap.size by omega) f4
  have o3 := h'.off f1 f5
  have o4 := h'.off f2 f6
  refine (fn_word h'.plan h'.bx n1 n2 hL o1 o2 o3 o4).mono ?_
  rintro e w2 ⟨rfl, q2, e2, hP, hW, hC⟩
  refine ⟨q2, rfl, ⟨hP, ?_, e2.trans h'.pq, h'.wr.trans hW fun k hk e => ?_, h'.came.trans hC h'.wr.size, h.far⟩, hW, hC⟩
  · rw [e2]; exact h'.bx.wrote hW o1 o2 o3 o4
  · rcases h'.came k e with e | e
    · exact e
    · omega
end Mid

/-! ### New -/
theorem i_tk : (Tryz.prog.info? 234).map (fun i => (i.zero, i.size, i.bytes)) = some (some (.agg #[.int .u32 0, .bool false]), 2, 8) := by kernel_rfl
theorem made_tk (n : Nat) : madeCells (Value.agg #[.int .u32 0, .bool false]).cells (n * 2) = (tks n (fun _ => 0) (fun _ => false)).toArray := by
  apply Array.ext'
  show (madeCells (#[.int .u32 0, .bool false] : Array Value) (n * 2)).toList = tks n (fun _ => 0) (fun _ => false)
  apply List.ext_getElem?
  intro m
  by_cases hm : m < n * 2
  · have ha : m / 2 < n := by omega
    have e : m = m / 2 * 2 + m % 2 := by omega
    have h2 := tks_at n (fun _ => 0) (fun _ => false) (k := m / 2) ha (j := m % 2) (Nat.mod_lt _ (by decide))
    rw [← e] at h2
    rw [h2]
    unfold madeCells
    rw [Array.toList_map, List.getElem?_map, Array.toList_range, List.getElem?_range hm]
    have : m % 2 = 0 ∨ m % 2 = 1 := by omega
    rcases this with h | h <;> simp [h, tkC]
  · rw [List.getElem?_eq_none (by simp [madeCells]; omega), List.getElem?_eq_none (by unfold tks; rw [flat_len (tkC_len _ _), List.length_range]; omega)]

/-- a lock that was made behind a world -/
def NewFlatPost (w : World) (q : Pl) (t : Int) (hs vs : List Int) (n : Nat) (x v : Int) (e : Ending) (w' : World) : Prop :=
  ∃ (L : Lp) (q' : Pl), e = .returned (.tuple #[.pointer (some ⟨L.lb, 0, none⟩), .int .i64 0]) ∧ FlRaw w' L (.pointer none) (newSeat n false true) (fun _ => 0) (fun _ => false) ∧
    (w.heap.size ≤ L.lb ∧ w.heap.size ≤ L.p ∧ w.heap.size ≤ L.b ∧ w.heap.size ≤ L.tb) ∧ L.a1 = hs.length ∧ L.a2 = hs.length + 1 ∧ q'.p = q.p ∧ PlanAt w' q' t (hs ++ [x] ++ [x]) (vs ++ [v] ++ [v]) ∧ Wrote q.F w w' ∧ Came w q.F q'.F

/-- New's end: the struct is laid -/
theorem fn_end {w X wq W : World} {q q' : Pl} {t : Int} {hs vs : List Int} {P b o n cap p sb tb : Nat} {x v : Int} {A : Array Value} (h : PlanAt w q t hs vs) (hWX : Wrote Nil w X) (hS : SeatAt wq p sb (newSeat n false true)) (hp : X.heap.size ≤ p) (hsb : X.heap.size ≤ sb) (hW : Wrote Nil X wq)
    (hM : Mid wq q t P b o n cap x v W q' (hs ++ [x] ++ [x]) (vs ++ [v] ++ [v])) (hA : (tks n (fun _ => 0) (fun _ => false)).toArray = A) (hT : W.heap[tb]? = some (.cells A 234 (0, 0))) (ht : wq.heap.size ≤ tb)
    (Y : World) (hY : Y = W.alloc (.cells #[.pointer (some ⟨p, 0, none⟩), .pointer none, .int .i64 (hs.length : Nat), .int .i64 ((hs.length : Nat) + 1), .slice (some ⟨tb, 0, none⟩) n n] 184)) (lb : Nat) (hlb : lb = W.heap.size) (r : Value) (hr : r = .tuple #[.pointer (some ⟨lb, 0, none⟩), .int .i64 0]) :
    NewFlatPost w q t hs vs n x v (.returned r) Y := by
  subst hr hlb hY hA
  have s1 := hWX.size
  have s2 := hW.size
  have hF : ∀ k, w.heap.size ≤ k → ¬ q.F k := fun k hk e => by have := h.lt e; omega
  have hS2 := hS.wrote hM.wr (hF p (by omega)) (hF sb (by omega))
  have lp := blk_lt hS2.obj
  have lsb := blk_lt hS2.ctx
  have ltb := blk_lt hT
  have lp0 := blk_lt hS.obj
  have lsb0 := blk_lt hS.ctx
  have k : Wrote Nil W (W.alloc (.cells #[.pointer (some ⟨p, 0, none⟩), .pointer none, .int .i64 (hs.length : Nat), .int .i64 ((hs.length : Nat) + 1), .slice (some ⟨tb, 0, none⟩) n n] 184)) := (Wrote.refl _ W).alloc _
  have s3 := hM.wr.size
  have hne := hS.ne
  refine ⟨⟨W.heap.size, p, sb, tb, hs.length, (hs.length : Int) + 1, ⟨0, 0, 0, 0, 0, 0, 0, 0, 0, 0, 0, 0, .pointer none⟩, []⟩, q', rfl, ⟨Go.Deep.blk_alloc_new W _, hS2.after k, (k.block tb ltb id).trans hT, ⟨by dsimp only; omega, by dsimp only; omega, by dsimp only; omega, by dsimp only; omega, by dsimp only; omega⟩, fun _ => by decide⟩, ⟨by dsimp only; omega, by dsimp only; omega, by dsimp only; omega, by dsimp only; omega⟩, rfl, rfl, hM.pq, hM.plan.after k, ?_, ?_⟩
  · exact ((hWX.nil hW).mono fun _ _ e => e.elim).trans (hM.wr.trans k fun _ _ e => e.elim) fun _ _ e => e
  · exact fun j hj => by
      rcases hM.came j hj with e | e
      · exact .inl e
      · exact .inr (by omega)

set_option maxHeartbeats 2000000 in
theorem fn_new {w : World} {q : Pl} {t : Int} {hs vs : List Int} (h : PlanAt w q t hs vs) {b o n cap : Nat} {zs : List Int} {v : Int} (hr : RowAt .i64 w (some ⟨b, o, none⟩) n zs) (ho : homesOK zs = true) (n1 : 1 ≤ n) (n2 : n ≤ 64) (hL : hs.length ≤ 900000) (hb : ¬ q.F b) (hv : 0 ≤ v ∧ v < 4294967296) :
    Calls Tryz.prog 77 #[.pointer (some ⟨q.p, 0, none⟩), .slice (some ⟨b, o, none⟩) n cap, .int .u32 v] w (NewFlatPost w q t hs vs n (zs.getD 0 0) v) := by
  obtain ⟨i0, hi, hz0, hz1, hz2⟩ := info_parts i_tk
  have hmk : ∀ w : World, (Instr.makeSlice 182 (.int .i64 (n : Int)) (.int .i64 (n : Int))).run Tryz.prog w = .ok (.slice (some ⟨w.heap.size, 0, none⟩) n n) (w.alloc (.cells (tks n (fun _ => 0) (fun _ => false)).toArray 234)) := by
    intro w
    have h := Go.run_make (P := Tryz.prog) w 182 234 i0 _ Tryz.underlying182 hi hz0 .i64 .i64 n n (by omega) (by omega) (by rw [hz2]; omega) (by omega)
    rw [hz1] at h
    simp only [Int.toNat_natCast] at h
    rw [made_tk n] at h
    exact h
  obtain ⟨x, hx⟩ : ∃ x, x = zs.getD 0 0 := ⟨_, rfl⟩
  rw [← hx]
  generalize hA : (tks n (fun _ => 0) (fun _ => false)).toArray = A at hmk
  have hc := hr.cell ⟨b, o, none⟩ rfl 0 (by omega)
  have hc : w.cell? ⟨b, o, none⟩ = some (.int .i64 x) := by rw [hx]; exact hc
  obtain ⟨X, hX⟩ : ∃ X, X = ((w.alloc (.cells #[.pointer (some ⟨q.p, 0, none⟩)] 73)).alloc (.cells #[.slice (some ⟨b, o, none⟩) n cap] 22)).alloc (.cells #[.int .u32 v] 62) := ⟨_, rfl⟩
  have hWX : Wrote Nil w X := by rw [hX]; exact (((Wrote.refl _ _).alloc _).alloc _).alloc _
  have c0 : X.cell? ⟨w.heap.size, 0, none⟩ = some (.pointer (some ⟨q.p, 0, none⟩)) := by rw [blk_cell (show X.heap[w.heap.size]? = some (.cells #[.pointer (some ⟨q.p, 0, none⟩)] 73 (0, 0)) by rw [hX, Go.Deep.blk_alloc_lt _ _ _ (by rw [Go.Deep.nblk_alloc, Go.Deep.nblk_alloc]; omega), Go.Deep.blk_alloc_lt _ _ _ (by rw [Go.Deep.nblk_alloc]; omega), Go.Deep.blk_alloc_new])]; rfl
  have c1 : X.cell? ⟨w.heap.size + 1, 0, none⟩ = some (.slice (some ⟨b, o, none⟩) n cap) := by
    have e : (w.alloc (.cells #[.pointer (some ⟨q.p, 0, none⟩)] 73)).heap.size = w.heap.size + 1 := Go.Deep.nblk_alloc _ _
    rw [blk_cell (show X.heap[w.heap.size + 1]? = some (.cells #[.slice (some ⟨b, o, none⟩) n cap] 22 (0, 0)) by rw [hX, ← e, Go.Deep.blk_alloc_lt _ _ _ (by rw [Go.Deep.nblk_alloc _ (.cells #[.slice (some ⟨b, o, none⟩) n cap] 22)]; omega), Go.Deep.blk_alloc_new])]; rfl
  have c2 : X.cell? ⟨w.heap.size + 1 + 1, 0, none⟩ = some (.int .u32 v) := by
    have e : ((w.alloc (.cells #[.pointer (some ⟨q.p, 0, none⟩)] 73)).alloc (.cells #[.slice (some ⟨b, o, none⟩) n cap] 22)).heap.size = w.heap.size + 1 + 1 := by rw [Go.Deep.nblk_alloc, Go.Deep.nblk_alloc]
    rw [blk_cell (show X.heap[w.heap.size + 1 + 1]? = some (.cells #[.int .u32 v] 62 (0, 0)) by rw [hX, ← e, Go.Deep.blk_alloc_new])]; rfl
  have hB : Bx X w.heap.size b o n cap q.p x v := ⟨c0, c1, c2, hWX.old hc⟩
  have cS := hm_seats (cap := cap) (hr.after hWX) ho false true n1 n2
  have hbx : b < w.heap.size := World.block_lt_of_cell? w _ hc
  have HX := Lib.hid (And.intro hX (And.intro hWX (And.intro h (And.intro hB (And.intro hr (And.intro ho (And.intro hA hbx)))))))
  clear hX hWX h hB hr hc ho hA hbx hx
  go_enter Tryz.func77, Tryz.ntmps77
  go_wp2_with (first
    | (go_at_call 45; rw [← HX.out.1]; (with_reducible refine cS.mono ?_); intro e wq hq; unfold NewSeatPost at hq; obtain ⟨p, sb, rfl, hS, hp, hsb, hW⟩ := hq; have b1 := hW.old c1; have HS := Lib.hid (And.intro hS (And.intro hp (And.intro hsb hW))); clear hS hp hsb hW))
  have hM : Mid wq q t w.heap.size b o n cap x v wq q hs vs := by
    obtain ⟨hX, hWX, h, hB, hr, ho, hA, hbx⟩ := HX.out
    have hW := HS.out.2.2.2
    have hsz : X.heap.size = w.heap.size + 1 + 1 + 1 := by rw [hX, Go.Deep.nblk_alloc, Go.Deep.nblk_alloc, Go.Deep.nblk_alloc]
    have hs2 := hW.size
    have hn : ∀ k, w.heap.size ≤ k → ¬ q.F k := fun k hk e => by have := h.lt e; omega
    exact ⟨(h.after hWX).after hW, hB.wrote hW id id id id, rfl, Wrote.refl _ _, Came.refl _ _, by omega, by omega, hn _ (Nat.le_refl _), hn _ (by omega), hn _ (by omega), hb⟩
  have cW := fun W (k : Wrote Nil wq W) => hM.word n1 n2 (by omega) k
  clear hM
  go_region_held3 (fun w' => w'.cell? ⟨w.heap.size + 1, 0, none⟩ = some (.slice (some ⟨b, o, none⟩) n cap)) (first | exact b1 | exact i1 | exact i2 | go_keep) (first
    | (go_at_call 83; (with_reducible refine (cW _ (by first | exact (Wrote.refl _ _).drew | exact ((Wrote.refl _ _).drew).alloc _ | exact ((Wrote.refl _ _).alloc _).drew)).mono ?_); intro e w2 hq; unfold MidPost at hq; obtain ⟨q1, rfl, hM1, hF1, hC1⟩ := hq; clear cW; have cX := fun W (k : Wrote Nil w2 W) => hM1.word n1 n2 (by simp; omega) k; have i1 := hM1.bx.c1; have HM := Lib.hid (And.intro hM1 (And.intro hF1 hC1)); clear hM1 hF1 hC1)
    | (go_at_call 83; (with_reducible refine (cX _ (by first | exact (Wrote.refl _ _) | exact (Wrote.refl _ _).drew | exact ((Wrote.refl _ _).drew).alloc _ | exact (Wrote.refl _ _).alloc _)).mono ?_); intro e w3 hq; unfold MidPost at hq; obtain ⟨q2, rfl, hM2, hF2, hC2⟩ := hq; clear cX; have i2 := hM2.bx.c1; have HM2 := Lib.hid (And.intro hM2 hF2); clear hM2 hF2 hC2))
  all_goals
    go_wp2
    go_ret2
    obtain ⟨hX, hWX, h, hB, hr, ho, hA, hbx⟩ := HX.out
    obtain ⟨hS, hp, hsb, hW⟩ := HS.out
    obtain ⟨hM1, hF1, hC1⟩ := HM.out
    obtain ⟨hM2, hF2⟩ := HM2.out
    first
      | exact fn_end h hWX hS hp hsb hW (hM2.after ((Wrote.refl Nil w3).alloc (.cells A 234))) hA (Go.Deep.blk_alloc_new w3 _) (by have := hM2.wr.size; omega) _ rfl _ (Go.Deep.nblk_alloc w3 _).symm _ rfl
      | exact fn_end h hWX hS hp hsb hW hM2 hA (tb := w2.heap.size) ((hF2.block w2.heap.size (Nat.lt_of_lt_of_eq (Nat.lt_succ_self _) (Go.Deep.nblk_alloc w2 _).symm) (fun e => by have := hM1.plan.lt e; omega)).trans (Go.Deep.blk_alloc_new w2 _)) (by have := hM1.wr.size; omega) _ rfl _ rfl _ rfl
      | exact fn_end h hWX hS hp hsb hW hM2 hA (tb := wq.heap.size) ((hF2.block wq.heap.size (Nat.lt_of_lt_of_le (Nat.lt_of_lt_of_eq (Nat.lt_succ_self _) (Go.Deep.nblk_alloc wq _).symm) hF1.size) (fun e => by
          have hz : (wq.alloc (.cells A 234)).heap.size = wq.heap.size + 1 := Go.Deep.nblk_alloc wq _
          rcases hC1 _ e with e | e
          · have := h.lt e; have := hWX.size; have := hW.size; omega
          · have e' : (wq.alloc (.cells A 234)).heap.size ≤ wq.heap.size := e
            omega)).trans ((hF1.block wq.heap.size (Nat.lt_of_lt_of_eq (Nat.lt_succ_self _) (Go.Deep.nblk_alloc wq _).symm) (fun e => by have := h.lt e; have := hWX.size; have := hW.size; omega)).trans (Go.Deep.blk_alloc_new wq _))) (Nat.le_refl _) _ rfl _ rfl _ rfl
end Go.Proofs.YtkmikkjjnbikdaaGreat.Kf
