/- The contracts of package mem's functions: a memory of words is a row of numbers and a row of homes; each access tells and leaves what is said of them. -/
import Derived.Test.YteokghghpmppnaaGreatDoorRows
import Derived.Test.YteokghghpmppnaaGreatDoorOpen
import Derived.WalkKit
import Derived.WalkLawsBesides
import Derived.Outline
import Derived.Deep.QuietTactic
import Derived.BigQuiet
import Derived.Lib.Hide
import Derived.Handy
import Derived.OpenShut
namespace Go.Proofs.YteokghghpmppnaaGreatDoor
open Go.RowKit
set_option linter.unusedVariables false
set_option maxRecDepth 100000

theorem ret_int {k : IntKind} {a b : Int} (h : a = b) : Ending.returned (.int k a) = .returned (.int k b) := by rw [h]
theorem ret_bool {a b : Bool} (h : a = b) : Ending.returned (.bool a) = .returned (.bool b) := by rw [h]

theorem info_int : (Tryz.prog.info? 3).map (fun i => (i.zero, i.size, i.bytes)) = some (some (.int .i64 0), 1, 8) := by kernel_rfl
theorem info_u32 : (Tryz.prog.info? 37).map (fun i => (i.zero, i.size, i.bytes)) = some (some (.int .u32 0), 1, 4) := by kernel_rfl
theorem info_word : (Tryz.prog.info? 149).map (fun i => (i.zero, i.size, i.bytes)) = some (some (.agg #[.int .u32 0]), 1, 4) := by kernel_rfl

/-! ### sync/atomic.Uint32 -/
theorem aload_any (b o : Nat) (x : Int) (w : World) (hc : w.cell? ⟨b, o, none⟩ = some (.int .u32 x)) :
    Calls Tryz.prog 72 #[.pointer (some ⟨b, o, none⟩)] w fun e w' => e = .returned (.int .u32 x) ∧ w = w' := by
  have hl := run_call_load (P := Tryz.prog) Tryz.func79 (by kernel_rfl) (by kernel_rfl) (by kernel_rfl) .u32 (by kernel_rfl) hc
  go_enter Tryz.func72, Tryz.ntmps72
  go_wp2
  go_ret
  exact ⟨rfl, rfl⟩
theorem astore_any (b o : Nat) (x y : Int) (w : World) (hc : w.cell? ⟨b, o, none⟩ = some (.int .u32 x)) (hz : w.frozen? ⟨b, o, none⟩ = false) :
    Calls Tryz.prog 52 #[.pointer (some ⟨b, o, none⟩), .int .u32 y] w fun e w' => e = .returned (.tuple #[]) ∧ w' = w.setCell ⟨b, o, none⟩ (.int .u32 y) := by
  have hl := run_call_store (P := Tryz.prog) Tryz.func56 (by kernel_rfl) (by kernel_rfl) (by kernel_rfl) (by kernel_rfl) (k := .u32) (y := y) hc hz
  go_enter Tryz.func52, Tryz.ntmps52
  go_wp2
  go_end0
  exact ⟨rfl, rfl⟩
theorem aswap_any (b o : Nat) (x y : Int) (w : World) (hc : w.cell? ⟨b, o, none⟩ = some (.int .u32 x)) (hz : w.frozen? ⟨b, o, none⟩ = false) :
    Calls Tryz.prog 130 #[.pointer (some ⟨b, o, none⟩), .int .u32 y] w fun e w' => e = .returned (.int .u32 x) ∧ w' = w.setCell ⟨b, o, none⟩ (.int .u32 y) := by
  have hl := run_call_swap (P := Tryz.prog) Tryz.func131 (by kernel_rfl) (by kernel_rfl) (by kernel_rfl) .u32 (by kernel_rfl) (y := y) hc hz
  go_enter Tryz.func130, Tryz.ntmps130
  go_wp2
  go_ret
  exact ⟨rfl, rfl⟩
def casW (w : World) (a : Addr) (x old y : Int) : World := if x = old then w.setCell a (.int .u32 y) else w
theorem acas_any (b o : Nat) (x old y : Int) (w : World) (hc : w.cell? ⟨b, o, none⟩ = some (.int .u32 x)) (hz : w.frozen? ⟨b, o, none⟩ = false) :
    Calls Tryz.prog 145 #[.pointer (some ⟨b, o, none⟩), .int .u32 old, .int .u32 y] w fun e w' => e = .returned (.bool (decide (x = old))) ∧ w' = casW w ⟨b, o, none⟩ x old y := by
  by_cases h : x = old
  · subst h
    have hl := run_call_cas_hit (P := Tryz.prog) Tryz.func146 (by kernel_rfl) (by kernel_rfl) (by kernel_rfl) .u32 (by kernel_rfl) (y := y) hc hz
    go_enter Tryz.func145, Tryz.ntmps145
    go_wp2
    go_ret
    exact ⟨by simp, by simp [casW]⟩
  · have hl := run_call_cas_miss (P := Tryz.prog) Tryz.func146 (by kernel_rfl) (by kernel_rfl) (by kernel_rfl) .u32 (by kernel_rfl) (y := y) hc hz h
    have H := Lib.hid h
    clear h
    go_enter Tryz.func145, Tryz.ntmps145
    go_wp2
    go_ret
    exact ⟨ret_bool (by simp [H.out]), by simp [casW, H.out]⟩
theorem aadd_any (b o : Nat) (x y : Int) (w : World) (hc : w.cell? ⟨b, o, none⟩ = some (.int .u32 x)) (hz : w.frozen? ⟨b, o, none⟩ = false) :
    Calls Tryz.prog 116 #[.pointer (some ⟨b, o, none⟩), .int .u32 y] w fun e w' => e = .returned (.int .u32 ((x + y) % 4294967296)) ∧ w' = w.setCell ⟨b, o, none⟩ (.int .u32 ((x + y) % 4294967296)) := by
  have hl := run_call_add (P := Tryz.prog) Tryz.func117 (by kernel_rfl) (by kernel_rfl) (by kernel_rfl) .u32 (by kernel_rfl) (y := y) (s := (x + y) % 4294967296) hc hz (by simp [go_sem]; rfl)
  go_enter Tryz.func116, Tryz.ntmps116
  go_wp2
  go_ret
  exact ⟨rfl, rfl⟩

/-! ### the answers, as functions of a row of numbers -/
def hasB (n : Nat) (a : Int) : Bool := decide (0 ≤ a ∧ a < n)
def loadI (ws : List Int) (a : Int) : Int := if 0 ≤ a then ws.getD a.toNat 0 else 0
def storeL (ws : List Int) (a v : Int) : List Int := if 0 ≤ a then ws.set a.toNat v else ws
def casB (ws : List Int) (a old : Int) : Bool := hasB ws.length a && decide (loadI ws a = old)
def casL (ws : List Int) (a old v : Int) : List Int := if casB ws a old then storeL ws a v else ws
def addL (ws : List Int) (a d : Int) : List Int := storeL ws a ((loadI ws a + d) % 4294967296)

theorem has_at {n k : Nat} (h : k < n) : hasB n k = true := by simp [hasB, h]
theorem has_not {n : Nat} {a : Int} (h : ¬(0 ≤ a ∧ a < n)) : hasB n a = false := by simp only [hasB, decide_eq_false_iff_not]; exact h
theorem load_at (ws : List Int) (k : Nat) : loadI ws k = ws.getD k 0 := by simp [loadI]
theorem load_not {ws : List Int} {a : Int} (h : ¬(0 ≤ a ∧ a < ws.length)) : loadI ws a = 0 := by
  unfold loadI
  split
  · have h2 : ws.length ≤ a.toNat := by omega
    simp [List.getElem?_eq_none h2]
  · rfl
theorem store_at (ws : List Int) (k : Nat) (v : Int) : storeL ws k v = ws.set k v := by simp [storeL]
theorem store_not {ws : List Int} {a v : Int} (h : ¬(0 ≤ a ∧ a < ws.length)) : storeL ws a v = ws := by
  unfold storeL
  split
  · exact List.set_eq_of_length_le (by omega)
  · rfl
theorem storeL_len (ws : List Int) (a v : Int) : (storeL ws a v).length = ws.length := by unfold storeL; split <;> simp
theorem casL_len (ws : List Int) (a old v : Int) : (casL ws a old v).length = ws.length := by unfold casL; split <;> simp [storeL_len]

/-! ### a memory in the heap -/
structure MemAt (w : World) (m bw : Nat) (hv : Value) (hs ws : List Int) : Prop where
  obj : w.heap[m]? = some (.cells #[hv, .slice (some ⟨bw, 0, none⟩) ws.length ws.length] 54 (0, 0))
  homes : w.ownsRow 0 3 1 hv ws.length (hs.map (Value.int .i64))
  words : w.heap[bw]? = some (.cells (ws.map (Value.int .u32)).toArray 149 (0, 0))
  ne : bw ≠ m
  apart : ∀ k, hv.ownBlock = some k → k ≠ bw
  small : ws.length ≤ 4096
  rng : ∀ z ∈ ws, 0 ≤ z ∧ z < 4294967296

namespace MemAt
variable {w w' : World} {m bw : Nat} {hv : Value} {hs ws : List Int}
theorem lt (h : MemAt w m bw hv hs ws) : m < w.heap.size ∧ bw < w.heap.size ∧ ∀ k, hv.ownBlock = some k → k < w.heap.size :=
  ⟨blk_lt h.obj, blk_lt h.words, fun k hk => (h.homes.lt k hk).2⟩
theorem cell1 (h : MemAt w m bw hv hs ws) : w.cell? ⟨m, 1, none⟩ = some (.slice (some ⟨bw, 0, none⟩) ws.length ws.length) := by rw [blk_cell h.obj]; rfl
theorem cell0 (h : MemAt w m bw hv hs ws) : w.cell? ⟨m, 0, none⟩ = some hv := by rw [blk_cell h.obj]; rfl
theorem word (h : MemAt w m bw hv hs ws) {k : Nat} (hk : k < ws.length) : w.cell? ⟨bw, k, none⟩ = some (.int .u32 (ws.getD k 0)) := by
  rw [blk_cell h.words]
  simp [hk]
theorem frozen (h : MemAt w m bw hv hs ws) (k : Nat) : w.frozen? ⟨bw, k, none⟩ = false := blk_frozen h.words k
theorem hlen (h : MemAt w m bw hv hs ws) : hs.length = ws.length := by have := h.homes.1; simpa using this
theorem keep (h : MemAt w m bw hv hs ws) (hm : w'.heap[m]? = w.heap[m]?) (hb : w'.heap[bw]? = w.heap[bw]?) (hh : ∀ k, hv.ownBlock = some k → w'.heap[k]? = w.heap[k]?) : MemAt w' m bw hv hs ws :=
  ⟨hm.trans h.obj, ownsRow_keep h.homes hh, hb.trans h.words, h.ne, h.apart, h.small, h.rng⟩
theorem wrote {S : Nat → Prop} (h : MemAt w m bw hv hs ws) (k : Wrote S w w') (hm : ¬ S m) (hb : ¬ S bw) (hh : ∀ j, hv.ownBlock = some j → ¬ S j) : MemAt w' m bw hv hs ws :=
  h.keep (k.block m h.lt.1 hm) (k.block bw h.lt.2.1 hb) (fun j hj => k.block j (h.lt.2.2 j hj) (hh j hj))
theorem after (h : MemAt w m bw hv hs ws) (k : Wrote Nil w w') : MemAt w' m bw hv hs ws := h.wrote k id id fun _ _ => id
theorem set (h : MemAt w m bw hv hs ws) (k : Nat) (v : Int) (hv0 : 0 ≤ v) (hv1 : v < 4294967296) : MemAt (w.setCell ⟨bw, k, none⟩ (.int .u32 v)) m bw hv hs (ws.set k v) := by
  refine ⟨?_, ?_, ?_, h.ne, h.apart, by simpa using h.small, ?_⟩
  · rw [Go.Deep.blk_setCell_other _ _ _ _ h.ne.symm, List.length_set]; exact h.obj
  · rw [List.length_set]
    exact ownsRow_keep h.homes fun j hj => Go.Deep.blk_setCell_other _ _ _ _ (h.apart j hj)
  · rw [blk_setCell h.words]
    congr 2
    simp [List.map_set]
  · intro z hz
    rcases List.mem_or_eq_of_mem_set hz with hz | rfl
    · exact h.rng z hz
    · exact ⟨hv0, hv1⟩
theorem getD_rng (h : MemAt w m bw hv hs ws) (k : Nat) : 0 ≤ ws.getD k 0 ∧ ws.getD k 0 < 4294967296 := by
  by_cases hk : k < ws.length
  · have : ws.getD k 0 = ws[k] := by simp [hk]
    rw [this]
    exact h.rng _ (List.getElem_mem hk)
  · simp [List.getElem?_eq_none (show ws.length ≤ k by omega)]
theorem load_rng (h : MemAt w m bw hv hs ws) (a : Int) : 0 ≤ loadI ws a ∧ loadI ws a < 4294967296 := by
  unfold loadI
  split
  · exact h.getD_rng _
  · omega
end MemAt

/-! ### the methods -/
theorem has_any {m bw : Nat} {hv : Value} {hs ws : List Int} {w : World} (h : MemAt w m bw hv hs ws) (a : Int) :
    Calls Tryz.prog 51 #[.pointer (some ⟨m, 0, none⟩), .int .i64 a] w fun e w' => e = .returned (.bool (hasB ws.length a)) ∧ w = w' := by
  have c1 := h.cell1
  have H := Lib.hid h
  clear h
  by_cases h0 : 0 ≤ a
  · by_cases h1 : a < ws.length
    · have hh : Hid (hasB ws.length a = true) := Lib.hid (by simp [hasB, h0, h1])
      go_enter Tryz.func51, Tryz.ntmps51
      go_wp2
      go_ret
      exact ⟨ret_bool hh.out.symm, rfl⟩
    · have hh : Hid (hasB ws.length a = false) := Lib.hid (has_not (by omega))
      go_enter Tryz.func51, Tryz.ntmps51
      go_wp2
      go_ret
      exact ⟨ret_bool hh.out.symm, rfl⟩
  · have hh : Hid (hasB ws.length a = false) := Lib.hid (has_not (by omega))
    go_enter Tryz.func51, Tryz.ntmps51
    go_wp2
    go_ret
    exact ⟨ret_bool hh.out.symm, rfl⟩

theorem len_any {m bw : Nat} {hv : Value} {hs ws : List Int} {w : World} (h : MemAt w m bw hv hs ws) :
    Calls Tryz.prog 11 #[.pointer (some ⟨m, 0, none⟩)] w fun e w' => e = .returned (.int .i64 ws.length) ∧ w = w' := by
  have c1 := h.cell1
  have H := Lib.hid h
  clear h
  go_enter Tryz.func11, Tryz.ntmps11
  go_wp2
  go_ret
  exact ⟨rfl, rfl⟩

theorem load_any {m bw : Nat} {hv : Value} {hs ws : List Int} {w : World} (h : MemAt w m bw hv hs ws) (a : Int) :
    Calls Tryz.prog 65 #[.pointer (some ⟨m, 0, none⟩), .int .i64 a] w fun e w' => e = .returned (.int .u32 (loadI ws a)) ∧ w = w' := by
  have c1 := h.cell1
  by_cases hk : 0 ≤ a ∧ a < ws.length
  · obtain ⟨k, rfl⟩ := Int.eq_ofNat_of_zero_le hk.1
    have hk : k < ws.length := by omega
    obtain ⟨x, hx⟩ : ∃ x, x = ws.getD k 0 := ⟨_, rfl⟩
    have c2 := h.word hk
    rw [← hx] at c2
    have X := Lib.hid hx
    clear hx
    have c3 := has_any h (k : Int)
    rw [has_at hk] at c3
    have H := Lib.hid h
    clear h
    go_enter Tryz.func65, Tryz.ntmps65
    go_wp2_with (first
      | (go_at_call 51; refine c3.mono ?_; rintro e w' ⟨rfl, rfl⟩)
      | (go_at_call 72; refine (aload_any _ _ _ _ c2).mono ?_; rintro e w' ⟨rfl, rfl⟩))
    go_ret
    exact ⟨ret_int (by rw [load_at]; exact X.out), rfl⟩
  · have c3 := has_any h a
    rw [has_not hk] at c3
    have H := Lib.hid hk
    clear h hk
    go_enter Tryz.func65, Tryz.ntmps65
    go_wp2_with (go_at_call 51; refine c3.mono ?_; rintro e w' ⟨rfl, rfl⟩)
    go_ret
    exact ⟨ret_int (load_not H.out).symm, rfl⟩

theorem store_any {m bw : Nat} {hv : Value} {hs ws : List Int} {w : World} (h : MemAt w m bw hv hs ws) (a v : Int) (v0 : 0 ≤ v) (v1 : v < 4294967296) :
    Calls Tryz.prog 40 #[.pointer (some ⟨m, 0, none⟩), .int .i64 a, .int .u32 v] w fun e w' => e = .returned (.tuple #[]) ∧ MemAt w' m bw hv hs (storeL ws a v) ∧ Wrote (One bw) w w' := by
  have c1 := h.cell1
  by_cases hk : 0 ≤ a ∧ a < ws.length
  · obtain ⟨k, rfl⟩ := Int.eq_ofNat_of_zero_le hk.1
    have hk : k < ws.length := by omega
    obtain ⟨x, hx⟩ : ∃ x, x = ws.getD k 0 := ⟨_, rfl⟩
    have c2 := h.word hk
    rw [← hx] at c2
    have c4 := h.frozen k
    have c3 := has_any h (k : Int)
    rw [has_at hk] at c3
    have c5 : MemAt (w.setCell ⟨bw, k, none⟩ (.int .u32 v)) m bw hv hs (storeL ws k v) := by rw [store_at]; exact h.set k v v0 v1
    have H := Lib.hid (And.intro hx c5)
    clear h hx c5
    go_enter Tryz.func40, Tryz.ntmps40
    go_wp2_with (first
      | (go_at_call 51; refine c3.mono ?_; rintro e w' ⟨rfl, rfl⟩)
      | (go_at_call 52; refine (astore_any _ _ _ _ _ c2 c4).mono ?_; rintro e w' ⟨rfl, rfl⟩))
    go_end0
    exact ⟨rfl, H.out.2, (Wrote.refl _ _).setCell _ _ fun _ => rfl⟩
  · have c3 := has_any h a
    rw [has_not hk] at c3
    have H := Lib.hid (And.intro hk h)
    clear h hk
    go_enter Tryz.func40, Tryz.ntmps40
    go_wp2_with (go_at_call 51; refine c3.mono ?_; rintro e w' ⟨rfl, rfl⟩)
    go_end0
    exact ⟨rfl, by rw [store_not H.out.1]; exact H.out.2, Wrote.refl _ _⟩

theorem swap_any {m bw : Nat} {hv : Value} {hs ws : List Int} {w : World} (h : MemAt w m bw hv hs ws) (a v : Int) (v0 : 0 ≤ v) (v1 : v < 4294967296) :
    Calls Tryz.prog 129 #[.pointer (some ⟨m, 0, none⟩), .int .i64 a, .int .u32 v] w fun e w' => e = .returned (.int .u32 (loadI ws a)) ∧ MemAt w' m bw hv hs (storeL ws a v) ∧ Wrote (One bw) w w' := by
  have c1 := h.cell1
  by_cases hk : 0 ≤ a ∧ a < ws.length
  · obtain ⟨k, rfl⟩ := Int.eq_ofNat_of_zero_le hk.1
    have hk : k < ws.length := by omega
    obtain ⟨x, hx⟩ : ∃ x, x = ws.getD k 0 := ⟨_, rfl⟩
    have c2 := h.word hk
    rw [← hx] at c2
    have c4 := h.frozen k
    have c3 := has_any h (k : Int)
    rw [has_at hk] at c3
    have c5 : MemAt (w.setCell ⟨bw, k, none⟩ (.int .u32 v)) m bw hv hs (storeL ws k v) := by rw [store_at]; exact h.set k v v0 v1
    have H := Lib.hid (And.intro hx c5)
    clear h hx c5
    go_enter Tryz.func129, Tryz.ntmps129
    go_wp2_with (first
      | (go_at_call 51; refine c3.mono ?_; rintro e w' ⟨rfl, rfl⟩)
      | (go_at_call 130; refine (aswap_any _ _ _ _ _ c2 c4).mono ?_; rintro e w' ⟨rfl, rfl⟩))
    go_ret
    exact ⟨ret_int (by rw [load_at]; exact H.out.1), H.out.2, (Wrote.refl _ _).setCell _ _ fun _ => rfl⟩
  · have c3 := has_any h a
    rw [has_not hk] at c3
    have H := Lib.hid (And.intro hk h)
    clear h hk
    go_enter Tryz.func129, Tryz.ntmps129
    go_wp2_with (go_at_call 51; refine c3.mono ?_; rintro e w' ⟨rfl, rfl⟩)
    go_ret
    exact ⟨ret_int (load_not H.out.1).symm, by rw [store_not H.out.1]; exact H.out.2, Wrote.refl _ _⟩

theorem add_any {m bw : Nat} {hv : Value} {hs ws : List Int} {w : World} (h : MemAt w m bw hv hs ws) (a v : Int) (v0 : 0 ≤ v) (v1 : v < 4294967296) :
    Calls Tryz.prog 115 #[.pointer (some ⟨m, 0, none⟩), .int .i64 a, .int .u32 v] w fun e w' => e = .returned (.int .u32 (loadI ws a)) ∧ MemAt w' m bw hv hs (addL ws a v) ∧ Wrote (One bw) w w' := by
  have c1 := h.cell1
  by_cases hk : 0 ≤ a ∧ a < ws.length
  · obtain ⟨k, rfl⟩ := Int.eq_ofNat_of_zero_le hk.1
    have hk : k < ws.length := by omega
    obtain ⟨x, hx⟩ : ∃ x, x = ws.getD k 0 := ⟨_, rfl⟩
    have c2 := h.word hk
    rw [← hx] at c2
    have c4 := h.frozen k
    have c3 := has_any h (k : Int)
    rw [has_at hk] at c3
    have c5 : MemAt (w.setCell ⟨bw, k, none⟩ (.int .u32 ((x + v) % 4294967296))) m bw hv hs (addL ws k v) := by
      unfold addL
      rw [store_at, load_at, ← hx]
      exact h.set k _ (by omega) (by omega)
    have c6 : 0 ≤ x ∧ x < 4294967296 := by rw [hx]; exact h.getD_rng k
    obtain ⟨x0, x1⟩ := c6
    have c7 : ((x + v) % 4294967296 - v) % 4294967296 = x := by omega
    have H := Lib.hid (And.intro hx (And.intro c5 c7))
    clear h hx c5 c7
    go_enter Tryz.func115, Tryz.ntmps115
    go_wp2_with (first
      | (go_at_call 51; refine c3.mono ?_; rintro e w' ⟨rfl, rfl⟩)
      | (go_at_call 116; refine (aadd_any _ _ _ _ _ c2 c4).mono ?_; rintro e w' ⟨rfl, rfl⟩))
    go_ret
    exact ⟨ret_int (by rw [load_at]; exact H.out.2.2.trans H.out.1), H.out.2.1, (Wrote.refl _ _).setCell _ _ fun _ => rfl⟩
  · have c3 := has_any h a
    rw [has_not hk] at c3
    have H := Lib.hid (And.intro hk h)
    clear h hk
    go_enter Tryz.func115, Tryz.ntmps115
    go_wp2_with (go_at_call 51; refine c3.mono ?_; rintro e w' ⟨rfl, rfl⟩)
    go_ret
    exact ⟨ret_int (load_not H.out.1).symm, by unfold addL; rw [store_not H.out.1]; exact H.out.2, Wrote.refl _ _⟩

theorem cas_any {m bw : Nat} {hv : Value} {hs ws : List Int} {w : World} (h : MemAt w m bw hv hs ws) (a old v : Int) (v0 : 0 ≤ v) (v1 : v < 4294967296) :
    Calls Tryz.prog 144 #[.pointer (some ⟨m, 0, none⟩), .int .i64 a, .int .u32 old, .int .u32 v] w fun e w' => e = .returned (.bool (casB ws a old)) ∧ MemAt w' m bw hv hs (casL ws a old v) ∧ Wrote (One bw) w w' := by
  have c1 := h.cell1
  by_cases hk : 0 ≤ a ∧ a < ws.length
  · obtain ⟨k, rfl⟩ := Int.eq_ofNat_of_zero_le hk.1
    have hk : k < ws.length := by omega
    obtain ⟨x, hx⟩ : ∃ x, x = ws.getD k 0 := ⟨_, rfl⟩
    have c2 := h.word hk
    rw [← hx] at c2
    have c4 := h.frozen k
    have c3 := has_any h (k : Int)
    rw [has_at hk] at c3
    have c7 : decide (x = old) = casB ws k old := by unfold casB; rw [has_at hk, load_at, hx]; rfl
    have c5 : MemAt (casW w ⟨bw, k, none⟩ x old v) m bw hv hs (casL ws k old v) ∧ Wrote (One bw) w (casW w ⟨bw, k, none⟩ x old v) := by
      unfold casL casW
      rw [← c7, store_at]
      by_cases e : x = old
      · rw [if_pos e, if_pos (by simp [e])]
        exact ⟨h.set k v v0 v1, (Wrote.refl _ _).setCell _ _ fun _ => rfl⟩
      · rw [if_neg e, if_neg (by simp [e])]
        exact ⟨h, Wrote.refl _ _⟩
    have H := Lib.hid (And.intro c7 c5)
    clear h hx c5 c7
    go_enter Tryz.func144, Tryz.ntmps144
    go_wp2_with (first
      | (go_at_call 51; refine c3.mono ?_; rintro e w' ⟨rfl, rfl⟩)
      | (go_at_call 145; refine (acas_any _ _ _ _ _ _ c2 c4).mono ?_; rintro e w' ⟨rfl, rfl⟩))
    go_ret
    exact ⟨ret_bool H.out.1, H.out.2.1, H.out.2.2⟩
  · have c3 := has_any h a
    rw [has_not hk] at c3
    have c7 : false = casB ws a old := by unfold casB; rw [has_not hk]; rfl
    have c8 : casL ws a old v = ws := by unfold casL; rw [← c7]; rfl
    have H := Lib.hid (And.intro c7 (And.intro c8 h))
    clear h hk c7 c8
    go_enter Tryz.func144, Tryz.ntmps144
    go_wp2_with (go_at_call 51; refine c3.mono ?_; rintro e w' ⟨rfl, rfl⟩)
    go_ret
    exact ⟨ret_bool H.out.1, by rw [H.out.2.1]; exact H.out.2.2, Wrote.refl _ _⟩
end Go.Proofs.YteokghghpmppnaaGreatDoor
