/- A plan that was made behind a world: its calls, and hier.New over it, be it refused or not. -/
import Derived.Test.YteacdcdjdbobnaaHierNode
namespace Go.Proofs.Yteacdcdjdbobnaa
open Go.RowKit Go.BigFrame
set_option linter.unusedVariables false
set_option maxRecDepth 100000

theorem fn_none {w : World} {p : Nat} {sa : Option Addr} {n cap : Nat} {zs : List Int} (hr : RowAt .i64 w sa n zs) (hL : n ≤ 1000000) (hn : homesOK zs = false ∨ n < 1 ∨ 64 < n) :
    Calls Try.prog 17 #[.pointer (some ⟨p, 0, none⟩), .slice sa n cap] w fun e w' => e = .returned (.tuple #[.pointer none, .int .i64 1]) ∧ w = w' := by
  have c := hm_none (cap := cap) hr false false hL hn
  clear hr hn
  go_enter Try.func17, Try.ntmps17
  go_wp2_with (first
    | (go_at_call 31; (with_reducible refine c.mono ?_); rintro e w' ⟨rfl, rfl⟩))
  go_ret2
  exact ⟨rfl, rfl⟩
/-! ### a plan that was made behind a world -/
def PlN (w0 : World) (p : Nat) (t : Int) (hs vs : List Int) (w : World) : Prop := ∃ q : Pl, q.p = p ∧ PlanAt w q t hs vs ∧ (∀ k, q.F k → w0.heap.size ≤ k) ∧ Wrote Nil w0 w
def PnPost (w0 : World) (p : Nat) (t : Int) (hs vs : List Int) (v : Value) (e : Ending) (w' : World) : Prop := e = .returned v ∧ PlN w0 p t hs vs w'
section
variable {w0 w : World} {p : Nat} {t : Int} {hs vs : List Int}
theorem PlN.after {w' : World} (h : PlN w0 p t hs vs w) (k : Wrote Nil w w') : PlN w0 p t hs vs w' := by
  obtain ⟨q, hq, hP, hn, hW⟩ := h
  exact ⟨q, hq, hP.after k, hn, hW.nil k⟩
theorem PlN.old (h : PlN w0 p t hs vs w) : Wrote Nil w0 w := by obtain ⟨q, hq, hP, hn, hW⟩ := h; exact hW
theorem pn_row (h : PlN w0 p t hs vs w) (n home v : Int) (hL : hs.length ≤ 900000) :
    Calls Try.prog 16 #[.pointer (some ⟨p, 0, none⟩), .int .i64 n, .int .i64 home, .int .u32 v] w (PnPost w0 p t (hs ++ List.replicate (rowN n) home) (vs ++ List.replicate (rowN n) v) (.int .i64 (hs.length : Nat))) := by
  obtain ⟨q, rfl, hP, hn, hW⟩ := h
  refine (plrow_any hP n home v hL).mono ?_
  intro e w' hq
  unfold PlanPost at hq
  obtain ⟨rfl, q', hq', hP', hW', hC⟩ := hq
  exact ⟨rfl, q', hq', hP', fun k hk => by
    rcases hC k hk with e | e
    · exact hn k e
    · exact Nat.le_trans hW.size e, hW.trans hW' fun b hb e => by have := hn b e; unfold Nil; omega⟩
theorem pn_len (h : PlN w0 p t hs vs w) : Calls Try.prog 19 #[.pointer (some ⟨p, 0, none⟩)] w fun e w' => e = .returned (.int .i64 (hs.length : Nat)) ∧ w = w' := by
  obtain ⟨q, rfl, hP, hn, hW⟩ := h
  exact (pllen_any hP).mono fun _ _ h => ⟨h.1, h.2.symm⟩
def PnLock (w0 : World) (p : Nat) (t : Int) (hs vs : List Int) (n : Nat) (zs : List Int) (e : Ending) (w' : World) : Prop :=
  ∃ L : Lp, e = .returned (.tuple #[.pointer (some ⟨L.lb, 0, none⟩), .int .i64 0]) ∧ PlN w0 p t hs vs w' ∧ FlRaw w' L (.pointer none) (newSeat n false false) (fun _ => 0) (newA zs) ∧ w0.heap.size ≤ L.b
theorem pn_new (h : PlN w0 p t hs vs w) {b o n cap : Nat} {zs : List Int} (hr : RowAt .i64 w0 (some ⟨b, o, none⟩) n zs) (hb : b < w0.heap.size) (ho : homesOK zs = true) (n1 : 1 ≤ n) (n2 : n ≤ 64) (hL : hs.length ≤ 900000) :
    Calls Try.prog 17 #[.pointer (some ⟨p, 0, none⟩), .slice (some ⟨b, o, none⟩) n cap] w (PnLock w0 p t (hs ++ homesH zs) (vs ++ wordsH n) n zs) := by
  obtain ⟨q, rfl, hP, hn, hW⟩ := h
  refine (fn_new hP (hr.after hW) ho n1 n2 hL (fun e => by have := hn b e; omega)).mono ?_
  intro e w' hq
  unfold NewHierPost at hq
  obtain ⟨L, q', rfl, hR, hl, _, _, hqq, hP2, hW2, hC2⟩ := hq
  have s0 := hW.size
  have hn2 : ∀ k, q'.F k → w0.heap.size ≤ k := fun k hk => by
    rcases hC2 k hk with e | e
    · exact hn k e
    · omega
  have hW3 : Wrote Nil w0 w' := hW.trans hW2 fun b hb e => by have := hn b e; unfold Nil; omega
  exact ⟨L, rfl, ⟨q', hqq, hP2, hn2, hW3⟩, hR, by omega⟩
end
end Go.Proofs.Yteacdcdjdbobnaa
