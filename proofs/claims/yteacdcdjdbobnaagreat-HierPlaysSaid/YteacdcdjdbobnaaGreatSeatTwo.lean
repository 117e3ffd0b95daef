/- Seats, and the reference's beside them in a law's memory: the calls as the law makes them. -/
import Derived.Test.YteacdcdjdbobnaaGreatSeatRend
namespace Go.Proofs.YteacdcdjdbobnaaGreat
open Go.RowKit
set_option linter.unusedVariables false
set_option maxRecDepth 100000

/-- seats that do s, and the reference's that do s' -/
structure SpAt (w wr : World) (p b r : Nat) (hv dv : Value) (s s' : SS) : Prop where
  seat : SeatSince w wr p b s
  ref : RsAt wr r hv dv s'
  new : ∀ k, SF r hv dv k → w.heap.size ≤ k
  far : ¬ SF r hv dv p ∧ ¬ SF r hv dv b
theorem SeatSince.back {w W wr : World} {p b : Nat} {s : SS} (hW : Wrote Nil w W) (h : SeatSince W wr p b s) : SeatSince w wr p b s :=
  ⟨h.at_, Nat.le_trans hW.size h.p, Nat.le_trans hW.size h.b, hW.nil h.wrote⟩
/-- the cells of newer blocks keep what they hold -/
def Kept (B : Nat) (W W' : World) : Prop := ∀ i u, W.cell? ⟨B, i, none⟩ = some u → W'.cell? ⟨B, i, none⟩ = some u
theorem Kept.trans {B : Nat} {w w' w'' : World} (h : Kept B w w') (k : Kept B w' w'') : Kept B w w'' := fun i u x => k i u (h i u x)
namespace SpAt
variable {w wr W : World} {p b r B : Nat} {hv dv : Value} {s s' : SS}
theorem after (h : SpAt w wr p b r hv dv s s') (k : Wrote Nil wr W) : SpAt w W p b r hv dv s s' := ⟨h.seat.keep k, h.ref.after k, h.new, h.far⟩
/-- behind a call of the reference -/
theorem rstep (h : SpAt w W p b r hv dv s s') (hB : ¬ SF r hv dv B) {s2 : SS} {x : Int} {e : Ending} {w2 : World} (k : RsPost W r hv dv s2 x e w2) : SpAt w w2 p b r hv dv s s2 ∧ Kept B W w2 :=
  ⟨⟨⟨h.seat.at_.wrote k.2.2 h.far.1 h.far.2, h.seat.p, h.seat.b, h.seat.wrote.trans k.2.2 fun j hj x => absurd (h.new j x) (by omega)⟩, k.2.1, h.new, h.far⟩, fun i u x => k.2.2.cell x hB⟩
/-- behind a call of the seats -/
theorem sstep (h : SpAt w W p b r hv dv s s') (hB : B ≠ b) {s2 : SS} {v : Value} {e : Ending} {w2 : World} (k : SeatPost W p b s2 v e w2) : SpAt w w2 p b r hv dv s2 s' ∧ Kept B W w2 :=
  ⟨⟨h.seat.step k, SrAt.wrote h.ref k.2.2 fun j hj e => h.far.2 (by cases e; exact hj), h.new, h.far⟩, fun i u x => k.2.2.cell x hB⟩
end SpAt
def SpPost (w W : World) (p b r : Nat) (hv dv : Value) (s s' : SS) (B : Nat) (v : Value) (e : Ending) (w' : World) : Prop := e = .returned v ∧ SpAt w w' p b r hv dv s s' ∧ Kept B W w'
section
variable {w W : World} {p b r B : Nat} {hv dv : Value} {s s' : SS}
theorem sp_rlock (h : SpAt w W p b r hv dv s s') (hB : ¬ SF r hv dv B) (n1 : 1 ≤ s'.n) (n2 : s'.n ≤ 64) (t d : Int) : Calls Tryz.prog 36 #[.pointer (some ⟨r, 0, none⟩), .int .i64 t, .int .i64 d] W (SpPost w W p b r hv dv s (s'.lock t d) B (.int .i64 (lockE s' t d))) :=
  (rs_lock h.ref n1 n2 t d).mono fun e w2 k => ⟨k.1, h.rstep hB k⟩
theorem sp_rturn (h : SpAt w W p b r hv dv s s') (hB : ¬ SF r hv dv B) (n1 : 1 ≤ s'.n) (n2 : s'.n ≤ 64) (t x : Int) (hx : x ≠ 1) : Calls Tryz.prog 37 #[.pointer (some ⟨r, 0, none⟩), .int .i64 t, .int .i64 x] W (SpPost w W p b r hv dv s (s'.rturn t x) B (.int .i64 (rturnE s' t x))) :=
  (rs_turn h.ref n1 n2 t x hx).mono fun e w2 k => ⟨k.1, h.rstep hB k⟩
theorem sp_rend (h : SpAt w W p b r hv dv s s') (hB : ¬ SF r hv dv B) (n1 : 1 ≤ s'.n) (n2 : s'.n ≤ 64) (t ev : Int) : Calls Tryz.prog 116 #[.pointer (some ⟨r, 0, none⟩), .int .i64 t, .int .i64 ev] W (SpPost w W p b r hv dv s (s'.fin t ev) B (.int .i64 (endI s' t ev))) :=
  (rs_end h.ref n1 n2 t ev).mono fun e w2 k => ⟨k.1, h.rstep hB k⟩
theorem sp_lock (h : SpAt w W p b r hv dv s s') (hB : B ≠ b) (t d : Int) : Calls Tryz.prog 15 #[.pointer (some ⟨p, 0, none⟩), .int .i64 t, .int .i64 d] W (SpPost w W p b r hv dv (s.lock t d) s' B (.int .i64 (lockE s t d))) :=
  (se_lock h.seat.at_ t d).mono fun e w2 k => ⟨k.1, h.sstep hB k⟩
theorem sp_unlock (h : SpAt w W p b r hv dv s s') (hB : B ≠ b) (t : Int) : Calls Tryz.prog 107 #[.pointer (some ⟨p, 0, none⟩), .int .i64 t] W (SpPost w W p b r hv dv (s.turn t 3) s' B (.int .i64 (turnE s t))) :=
  (se_unlock h.seat.at_ t).mono fun e w2 k => ⟨k.1, h.sstep hB k⟩
theorem sp_probe (h : SpAt w W p b r hv dv s s') (hB : B ≠ b) (t : Int) : Calls Tryz.prog 106 #[.pointer (some ⟨p, 0, none⟩), .int .i64 t] W (SpPost w W p b r hv dv (s.probe t) s' B (.int .i64 (probeE s t))) :=
  (se_probe h.seat.at_ t).mono fun e w2 k => ⟨k.1, h.sstep hB k⟩
theorem sp_end (h : SpAt w W p b r hv dv s s') (hB : B ≠ b) (t ev : Int) : Calls Tryz.prog 45 #[.pointer (some ⟨p, 0, none⟩), .int .i64 t, .int .i64 ev] W (SpPost w W p b r hv dv (s.fin t ev) s' B (.bool (endB s t ev))) :=
  (se_end h.seat.at_ t ev).mono fun e w2 k => ⟨k.1, h.sstep hB k⟩
end
theorem rturn_three (s : SS) (t : Int) : s.rturn t 3 = s.turn t 3 ∧ rturnE s t 3 = turnE s t := ⟨if_neg (fun h => absurd h.1 (by decide)), if_neg (fun h => absurd h.1 (by decide))⟩
theorem rturn_four (s : SS) (t : Int) : s.rturn t 4 = s.probe t ∧ rturnE s t 4 = probeE s t := by
  unfold SS.rturn rturnE SS.probe probeE
  cases s.probed <;> simp
/-- both do the same -/
def SpSt (w wr : World) (p b r n : Nat) (hv dv : Value) : Prop := ∃ s, s.n = n ∧ SpAt w wr p b r hv dv s s
theorem sp_start {w W w1 w2 : World} {p b r n : Nat} {hv dv : Value} {s : SS} (hn : s.n = n) (hW : Wrote Nil w W) (h : SeatSince W w1 p b s) (hR : RsAt w2 r hv dv s) (hnew : ∀ k, SF r hv dv k → w1.heap.size ≤ k) (hW2 : Wrote Nil w1 w2) : SpSt w w2 p b r n hv dv := by
  have h1 := blk_lt h.at_.obj
  have h2 := blk_lt h.at_.ctx
  have h3 := (hW.nil h.wrote).size
  exact ⟨s, hn, (h.keep hW2).back hW, hR, fun k hk => Nat.le_trans h3 (hnew k hk), fun x => by have := hnew _ x; omega, fun x => by have := hnew _ x; omega⟩
theorem SS.stI_at (s : SS) {k : Nat} (hk : k < s.n) : s.stI (k : Int) = s.st k := by unfold SS.stI; rw [if_pos (by omega), Int.toNat_natCast]
theorem SS.dlI_at (s : SS) {k : Nat} (hk : k < s.n) : s.dlI (k : Int) = s.dlS k := by unfold SS.dlI; rw [if_pos (by omega), Int.toNat_natCast]; rfl
theorem SS.stI_no (s : SS) {t : Int} (h : ¬ (0 ≤ t ∧ t < s.n)) : s.stI t = 0 := if_neg h
theorem SS.dlI_no (s : SS) {t : Int} (h : ¬ (0 ≤ t ∧ t < s.n)) : s.dlI t = -1 := if_neg h
end Go.Proofs.YteacdcdjdbobnaaGreat
