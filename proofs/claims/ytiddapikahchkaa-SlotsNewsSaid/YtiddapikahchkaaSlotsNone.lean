/- A plan that was made behind a world: its calls, and slots.New over it, be it refused or not. -/
import Derived.Test.YtiddapikahchkaaSlotsLaw
namespace Go.Proofs.Ytiddapikahchkaa
open Go.RowKit Go.BigFrame
set_option linter.unusedVariables false
set_option maxRecDepth 100000

theorem fn_none {w : World} {p : Nat} {sa : Option Addr} {n cap : Nat} {zs : List Int} (hr : RowAt .i64 w sa n zs) (hL : n ≤ 1000000) (hn : homesOK zs = false ∨ n < 1 ∨ 64 < n) (x v : Int) :
    Calls Try.prog 12 #[.pointer (some ⟨p, 0, none⟩), .slice sa n cap, .int .i64 x, .int .u32 v] w fun e w' => e = .returned (.tuple #[.pointer none, .int .i64 1]) ∧ w = w' := by
  have c := hm_none (cap := cap) hr false false hL hn
  clear hr hn
  go_enter Try.func12, Try.ntmps12
  go_wp2_with (first
    | (go_at_call 32; (with_reducible refine c.mono ?_); rintro e w' ⟨rfl, rfl⟩))
  go_ret2
  exact ⟨rfl, rfl⟩
def NonePost (w : World) (e : Ending) (w' : World) : Prop := e = .returned (.tuple #[.pointer none, .int .i64 7]) ∧ Wrote Nil w w'
theorem fn_none7 {w : World} {p : Nat} {sa : Option Addr} {n cap : Nat} {zs : List Int} (hr : RowAt .i64 w sa n zs) (ho : homesOK zs = true) (n1 : 1 ≤ n) (n2 : n ≤ 64) {x : Int} (hx : sizeB x = false ∨ x < n) (v : Int) :
    Calls Try.prog 12 #[.pointer (some ⟨p, 0, none⟩), .slice sa n cap, .int .i64 x, .int .u32 v] w (NonePost w) := by
  have c := hm_seats (cap := cap) hr ho false false n1 n2
  have siz2 := in_seven x
  clear hr ho
  cases hs : sizeB x
  all_goals
    rw [hs] at siz2
    have hlt : sizeB x = true → x < n := fun e => by
      rcases hx with q | q
      · rw [e] at q; cases q
      · exact q
    first | (have hlt2 := hlt hs; clear hs hx hlt) | clear hs hx hlt
    go_enter Try.func12, Try.ntmps12
    go_wp2_with (first
      | (go_at_call 32; (with_reducible refine c.mono ?_); intro e wq hq; unfold NewSeatPost at hq; obtain ⟨p, sb, rfl, hS, hp, hsb, hW⟩ := hq; have HS := Lib.hid hW; clear hS hp hsb hW c)
      | (go_at_call 34; (with_reducible refine (sizes_seven wq).mono ?_); rintro e ws ⟨g, gc, rfl, hc, hbel⟩; have cC := cn_any (cap := gc) (row_seven hc) x (by omega); rw [siz2] at cC; have HB := Lib.hid (Wrote.ofBelow hbel); clear hc hbel)
      | (go_at_call 33; (with_reducible refine cC.mono ?_); rintro e w6 ⟨rfl, rfl⟩; clear cC))
    go_ret2
    exact ⟨rfl, HS.out.nil HB.out⟩

/-! ### a plan that was made behind a world -/
def PlN (w0 : World) (p : Nat) (t : Int) (hs vs : List Int) (w : World) : Prop := ∃ q : Pl, q.p = p ∧ PlanAt w q t hs vs ∧ (∀ k, q.F k → w0.heap.size ≤ k) ∧ Wrote Nil w0 w
def PnPost (w0 : World) (p : Nat) (t : Int) (hs vs : List Int) (v : Value) (e : Ending) (w' : World) : Prop := e = .returned v ∧ PlN w0 p t hs vs w'
section
variable {w0 w : World} {p : Nat} {t : Int} {hs vs : List Int}
theorem PlN.after {w' : World} (h : PlN w0 p t hs vs w) (k : Wrote Nil w w') : PlN w0 p t hs vs w' := by
  obtain ⟨q, hq, hP, hn, hW⟩ := h
  exact ⟨q, hq, hP.after k, hn, hW.nil k⟩
theorem PlN.old (h : PlN w0 p t hs vs w) : Wrote Nil w0 w := by obtain ⟨q, hq, hP, hn, hW⟩ := h; exact hW
theorem pn_row (h : PlN w0 p t hs vs w) (n home v : Int) (hL : hs.length ≤ 900000) :
    Calls Try.prog 25 #[.pointer (some ⟨p, 0, none⟩), .int .i64 n, .int .i64 home, .int .u32 v] w (PnPost w0 p t (hs ++ List.replicate (rowN n) home) (vs ++ List.replicate (rowN n) v) (.int .i64 (hs.length : Nat))) := by
  obtain ⟨q, rfl, hP, hn, hW⟩ := h
  refine (plrow_any hP n home v hL).mono ?_
  intro e w' hq
  unfold PlanPost at hq
  obtain ⟨rfl, q', hq', hP', hW', hC⟩ := hq
  exact ⟨rfl, q', hq', hP', fun k hk => by
    rcases hC k hk with e | e
    · exact hn k e
    · exact Nat.le_trans hW.size e, hW.trans hW' fun b hb e => by have := hn b e; unfold Nil; omega⟩
theorem pn_len (h : PlN w0 p t hs vs w) : Calls Try.prog 27 #[.pointer (some ⟨p, 0, none⟩)] w fun e w' => e = .returned (.int .i64 (hs.length : Nat)) ∧ w = w' := by
  obtain ⟨q, rfl, hP, hn, hW⟩ := h
  exact (pllen_any hP).mono fun _ _ h => ⟨h.1, h.2.symm⟩
def PnLock (w0 : World) (p : Nat) (t : Int) (hs vs : List Int) (n sz : Nat) (e : Ending) (w' : World) : Prop :=
  ∃ L : Lp, e = .returned (.tuple #[.pointer (some ⟨L.lb, 0, none⟩), .int .i64 0]) ∧ PlN w0 p t hs vs w' ∧ FlRaw w' L (.pointer none) (newSeat n false false) sz (fun _ => 0) (fun _ => 0) ∧ w0.heap.size ≤ L.b
theorem pn_new (h : PlN w0 p t hs vs w) {b o n cap sz z : Nat} {zs : List Int} {v : Int} (hr : RowAt .i64 w0 (some ⟨b, o, none⟩) n zs) (hb : b < w0.heap.size) (ho : homesOK zs = true) (n1 : 1 ≤ n) (n2 : n ≤ 64) (siz : sizeB sz = true) (nsz : n ≤ sz) (hL : hs.length ≤ 900000) (hv : 0 ≤ v ∧ v < 4294967296) (hz : v % (sz : Int) = (z : Int)) :
    Calls Try.prog 12 #[.pointer (some ⟨p, 0, none⟩), .slice (some ⟨b, o, none⟩) n cap, .int .i64 (sz : Nat), .int .u32 v] w (PnLock w0 p t (hs ++ [zs.getD 0 0] ++ homeR zs n sz) (vs ++ [v] ++ slotR z sz) n sz) := by
  obtain ⟨q, rfl, hP, hn, hW⟩ := h
  refine (fn_new hP (hr.after hW) ho n1 n2 siz nsz hL (fun e => by have := hn b e; omega) hv hz).mono ?_
  intro e w' hq
  unfold NewSlotsPost at hq
  obtain ⟨L, q', rfl, hR, hl, _, _, hqq, hP2, hW2, hC2⟩ := hq
  have s0 := hW.size
  have hn2 : ∀ k, q'.F k → w0.heap.size ≤ k := fun k hk => by
    rcases hC2 k hk with e | e
    · exact hn k e
    · omega
  have hW3 : Wrote Nil w0 w' := hW.trans hW2 fun b hb e => by have := hn b e; unfold Nil; omega
  exact ⟨L, rfl, ⟨q', hqq, hP2, hn2, hW3⟩, hR, by omega⟩
end
end Go.Proofs.Ytiddapikahchkaa
