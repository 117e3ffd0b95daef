/- A new CLH lock and its port. -/
import Derived.Test.YteokghghpmppnaaGreatDoorLockSc
import Derived.Handy
namespace Go.Proofs.YteokghghpmppnaaGreatDoor.Kc
open Go.RowKit Go.BigFrame
set_option linter.unusedVariables false
set_option maxRecDepth 100000

abbrev zerosC (n : Nat) : List Int := [0] ++ [0] ++ List.replicate n 0
abbrev homesC (zs : List Int) : List Int := [zs.getD 0 0] ++ [zs.getD 0 0] ++ zs
def newF (n t : Nat) : FL := ⟨newSeat n false true, fun _ => 0, nodeK n, fun _ => 0, newS t (zerosC n)⟩
theorem getD_ok {zs : List Int} (h : homesOK zs = true) (i : Nat) : okH (zs.getD i 0) = true := by
  unfold homesOK at h
  rw [List.all_eq_true] at h
  by_cases hi : i < zs.length
  · exact h _ (by rw [List.getD_eq_getElem?_getD, List.getElem?_eq_getElem hi]; exact List.getElem_mem hi)
  · rw [List.getD_eq_getElem?_getD, List.getElem?_eq_none (by omega)]; rfl
theorem homesC_ok {zs : List Int} (h : homesOK zs = true) : homesOK (homesC zs) = true := by
  have h0 := getD_ok h 0
  unfold homesOK at h ⊢
  unfold homesC
  rw [List.all_append, List.all_append, h, Bool.and_true]
  show ((okH (zs.getD 0 0) && true) && (okH (zs.getD 0 0) && true)) = true
  rw [h0]
  rfl
theorem zerosC_at (n j : Nat) : (zerosC n).getD j 0 = 0 := by
  match j with
  | 0 => rfl
  | 1 => rfl
  | j + 2 =>
    show (List.replicate n (0 : Int)).getD j 0 = 0
    rw [List.getD_eq_getElem?_getD, List.getElem?_replicate]
    split <;> rfl
theorem zerosC_len (n : Nat) : (zerosC n).length = n + 2 := by simp [zerosC]
/-- behind New and Port: a lock and its port -/
def MadePost (w0 : World) (n : Nat) (L : Lp) (w' : World) : Prop := L.a1 = 0 ∧ L.a2 = 1 ∧ LkP w0 w' L (newF n n)
theorem fl_port {w0 w w1 : World} {q q' : Pl} {n : Nat} {zs : List Int} {L0 : Lp} (h0 : Wrote Nil w0 w) (hq : ∀ k, q.F k → w0.heap.size ≤ k) (n1 : 1 ≤ n) (n2 : n ≤ 64) (ho : homesOK zs = true) (hn : zs.length = n)
    (hR : FlRaw w1 L0 (.pointer none) (newSeat n false true) (fun _ => 0) (nodeK n) (fun _ => 0)) (hl : w.heap.size ≤ L0.lb ∧ w.heap.size ≤ L0.p ∧ w.heap.size ≤ L0.b ∧ w.heap.size ≤ L0.tb) (h1 : L0.a1 = 0) (h2 : L0.a2 = 1) (hqq : q'.p = q.p) (hP : PlanAt w1 q' n (homesC zs) (zerosC n)) (hW : Wrote q.F w w1) :
    Calls Tryz.prog 14 #[.pointer (some ⟨q.p, 0, none⟩)] w1 fun e w' => ∃ L : Lp, e = .returned (.tuple #[.pointer (some ⟨L.q.p, 0, none⟩), .int .i64 0]) ∧ MadePost w0 n L w' ∧ L.lb = L0.lb ∧ L.hs = homesC zs := by
  have c := plport_good hP (fun j => by rw [zerosC_at]; decide) n1 n2 (by simp [homesC]; omega) (homesC_ok ho)
  rw [hqq] at c
  refine c.mono ?_
  rintro e w' ⟨qq, rfl, hA, hk0, hk3, hW2⟩
  have s0 := h0.size
  refine ⟨{ L0 with q := qq, hs := homesC zs }, rfl, ⟨h1, h2, ?_⟩, rfl, rfl⟩
  exact lp_made (f := newF n n) hR (by omega) (h0.trans hW fun k hk e => by have := hq k e; unfold Nil; omega) hA hk0 hk3 hW2
theorem fn_none {w : World} {p : Nat} {sa : Option Addr} {n cap : Nat} {zs : List Int} (hr : RowAt .i64 w sa n zs) (hL : n ≤ 1000000) (hn : homesOK zs = false ∨ n < 1 ∨ 64 < n) :
    Calls Tryz.prog 18 #[.pointer (some ⟨p, 0, none⟩), .slice sa n cap] w fun e w' => e = .returned (.tuple #[.pointer none, .int .i64 1]) ∧ w = w' := by
  have c := hm_none (cap := cap) hr false true hL hn
  clear hr hn
  go_enter Tryz.func18, Tryz.ntmps18
  go_wp2_with (first
    | (go_at_call 24; (with_reducible refine c.mono ?_); rintro e w' ⟨rfl, rfl⟩))
  go_ret2
  exact ⟨rfl, rfl⟩
end Go.Proofs.YteokghghpmppnaaGreatDoor.Kc
