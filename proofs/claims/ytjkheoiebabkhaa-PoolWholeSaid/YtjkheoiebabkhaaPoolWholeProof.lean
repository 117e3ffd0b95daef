/- For every input the Go function PoolWhole of weighlocklaw06 returns true, and its arguments read afterwards as before. Conditions: none. -/
import Derived.Test.YtjkheoiebabkhaaRows
import Derived.WalkKit
import Derived.ProofKit
import Derived.OpenShut
import Derived.ChangeOld
import Derived.Below
import Derived.Carry
import Derived.Lib.Hide
import Derived.BigQuiet
import Derived.BigRegion
import Derived.Deep.Cut
import Derived.Test.YtjkheoiebabkhaaPoolLaw
namespace Go.Proofs.Ytjkheoiebabkhaa.poolWhole
open Go.ChangeShapes Go.WideShapes Go.ChangeAt Go.RowKit
set_option linter.unusedVariables false

theorem own : ownKnob Try.prog.godebug = none := by kernel_rfl
theorem laidOut : laidOutB Try.prog = true := by kernel_rfl

/-! the walk -/
/-! which numbers have been met -/
def seenB (s : PS) (t j i : Nat) : Bool := (List.range t).any (fun u => (s.row u).contains i) || ((s.row t).take j).contains i
theorem seen_no {s : PS} (hI : PInv s) {t j x : Nat} (ht : t < s.T) (hx : (s.row t)[j]? = some x) : seenB s t j x = false := by
  have hm := hI.mem t x ht (List.mem_of_getElem? hx)
  cases hc : seenB s t j x
  · rfl
  · exfalso
    unfold seenB at hc
    rw [Bool.or_eq_true, List.any_eq_true] at hc
    rcases hc with ⟨u, hu, hc⟩ | hc
    · have hu' : u < t := by simpa using hu
      have := hI.mem u x (by omega) (by simpa using hc)
      omega
    · have hc' : x ∈ (s.row t).take j := by simpa using hc
      obtain ⟨i, hi⟩ := List.getElem?_of_mem hc'
      have hil : i < j := by have := (List.getElem?_eq_some_iff.1 hi).1; rw [List.length_take] at this; omega
      rw [List.getElem?_take_of_lt hil] at hi
      have := (List.getElem?_inj (List.getElem?_eq_some_iff.1 hi).1 (hI.nodup t ht)).1 (hi.trans hx.symm)
      omega
theorem seen_step {s : PS} {t j x : Nat} (hx : (s.row t)[j]? = some x) (i : Nat) : seenB s t (j + 1) i = (decide (i = x) || seenB s t j i) := by
  unfold seenB
  rw [List.take_add_one, hx]
  simp only [Option.toList, List.contains_append, List.contains_cons, List.contains_nil, Bool.or_false]
  rw [show (i == x) = decide (i = x) from rfl]
  cases (List.range t).any (fun u => (s.row u).contains i) <;> cases ((s.row t).take j).contains i <;> cases decide (i = x) <;> rfl
theorem seen_next (s : PS) (t i : Nat) : seenB s t (s.row t).length i = seenB s (t + 1) 0 i := by
  unfold seenB
  rw [List.take_length, List.range_succ, List.any_append]
  simp
theorem seen_all {s : PS} (hI : PInv s) {x : Nat} (h1 : 1 ≤ x) (h2 : x ≤ s.n) : (seenB s s.T 0 x = false ∧ s.own x = -1) ∨ (seenB s s.T 0 x = true ∧ ∃ t : Nat, s.own x = (t : Int)) := by
  rcases hI.all x h1 h2 with e | ⟨t, ht, e, hm⟩
  · refine .inl ⟨?_, e⟩
    cases hc : seenB s s.T 0 x
    · rfl
    · exfalso
      unfold seenB at hc
      rw [Bool.or_eq_true, List.any_eq_true] at hc
      rcases hc with ⟨u, hu, hc⟩ | hc
      · have := hI.mem u x (by simpa using hu) (by simpa using hc)
        omega
      · simp at hc
  · refine .inr ⟨?_, t, e⟩
    unfold seenB
    rw [Bool.or_eq_true, List.any_eq_true]
    exact .inl ⟨t, by simpa using ht, by simpa using hm⟩
def cntB (s : PS) (t j i : Nat) : Value := .int .i64 (if seenB s t j i then 1 else 0)

/-- behind some givings -/
def WSt (w : World) (p T e : Nat) (wr : World) : Prop := ∃ s : PS, PAt w wr (fun _ => False) p s ∧ s.n = T * e ∧ s.T = T
def WNew (w : World) (T e : Nat) (en : Ending) (w' : World) : Prop := ∃ p, en = .returned (.tuple #[.pointer (some ⟨p, 0, none⟩), .int .i64 0]) ∧ WSt w p T e w'
theorem wnew (w : World) {T e : Nat} (t1 : 1 ≤ T) (t2 : T ≤ 64) (e1 : 1 ≤ e) (e2 : e ≤ 8) : Calls Try.prog 7 #[.int .i64 (T : Int), .int .i64 (e : Int)] w (WNew w T e) := by
  refine (pa_new (Wrote.refl Nil w) T e t1 t2 e1 e2).mono ?_
  rintro en w' ⟨p, rfl, hP⟩
  exact ⟨p, rfl, newS T e, hP, rfl, rfl⟩
def WGive (w : World) (p T e : Nat) (en : Ending) (w' : World) : Prop := ∃ x : Int, en = .returned (.int .i64 x) ∧ WSt w p T e w'
theorem wgive {w wr : World} {p T e : Nat} (h : WSt w p T e wr) (id to : Int) : Calls Try.prog 14 #[.pointer (some ⟨p, 0, none⟩), .int .i64 id, .int .i64 to] wr (WGive w p T e) := by
  obtain ⟨s, hP, hn, hT⟩ := h
  refine (pa_give hP id to).mono ?_
  rintro en w' ⟨rfl, hP', _⟩
  exact ⟨_, rfl, _, hP', by rw [(giveI_nT s id to).1, hn], by rw [(giveI_nT s id to).2, hT]⟩
theorem WSt.same {w wr wr' : World} {p T e : Nat} (h : WSt w p T e wr) (hW : Wrote Nil wr wr') : WSt w p T e wr' := by
  obtain ⟨s, hP, hn, hT⟩ := h
  exact ⟨s, hP.same hW, hn, hT⟩

/-- the pool, and how often each number has been met -/
structure VSt (w : World) (p k : Nat) (s : PS) (t j : Nat) (wr : World) : Prop where
  pool : PAt w wr (One k) p s
  cnt : wr.rowIs k 43 64 (cntB s t j)
  new : w.heap.size ≤ k
theorem VSt.same {w wr wr' : World} {p k : Nat} {s : PS} {t j : Nat} (h : VSt w p k s t j wr) (hW : Wrote Nil wr wr') : VSt w p k s t j wr' :=
  ⟨h.pool.same hW, h.cnt.of_block (hW.block k h.cnt.lt id), h.new⟩
/-- a row that was told, apart from the counts -/
structure VRow (k : Nat) (l : List Nat) (so : Option Addr) (cap : Nat) (wr : World) : Prop where
  row : wr.ownsRow 0 3 1 (.slice so l.length cap) l.length (l.map idv)
  far : ∀ b, (Value.slice so l.length cap).ownBlock = some b → b ≠ k
theorem VSt.store {w wr : World} {p k : Nat} {s : PS} {t j x : Nat} {so : Option Addr} {cap : Nat} (h : VSt w p k s t j wr) (hr : VRow k (s.row t) so cap wr) (hx : (s.row t)[j]? = some x) (hx2 : x < 64) :
    VSt w p k s t (j + 1) (wr.setCell ⟨k, x, none⟩ (.int .i64 1)) ∧ VRow k (s.row t) so cap (wr.setCell ⟨k, x, none⟩ (.int .i64 1)) := by
  have hW : Wrote (One k) wr (wr.setCell ⟨k, x, none⟩ (.int .i64 1)) := (Wrote.refl _ _).setCell _ _ fun _ => rfl
  obtain ⟨⟨q, hp, hP, hF⟩, hl, hw, hI⟩ := h.pool
  refine ⟨⟨⟨⟨q, hp, hP.wrote hW fun b hb e => (hF b hb).2 e, hF⟩, fun b hb => ?_, hw.one hW h.new, hI⟩, (h.cnt.set x _).congr fun i hi => ?_, h.new⟩, ⟨ownsRow_keep hr.row fun b hb => hW.block b (hr.row.lt b hb).2 (hr.far b hb), hr.far⟩⟩
  · rw [Go.Deep.nblk_setCell]
    exact hl b hb
  · unfold cntB
    rw [seen_step hx]
    by_cases e : i = x
    · rw [if_pos e, decide_eq_true e]
      rfl
    · rw [if_neg e, decide_eq_false e, Bool.false_or]
def VRowPost (w : World) (p k : Nat) (s : PS) (t : Nat) (en : Ending) (w' : World) : Prop :=
  ∃ so cap, en = .returned (.slice so (s.row t).length cap) ∧ VSt w p k s t 0 w' ∧ VRow k (s.row t) so cap w'
theorem vrow {w wr : World} {p k : Nat} {s : PS} {t : Nat} (h : VSt w p k s t 0 wr) (ht : t < s.T) : Calls Try.prog 16 #[.pointer (some ⟨p, 0, none⟩), .int .i64 (t : Int)] wr (VRowPost w p k s t) := by
  have c := pa_row h.pool (t : Int)
  rw [show s.rowI (t : Int) = s.row t by unfold PS.rowI; rw [if_pos (by omega)]; rfl] at c
  refine c.mono ?_
  rintro en w' ⟨so, cap, rfl, hown, hW⟩
  refine ⟨so, cap, rfl, h.same hW, ⟨ownsRow_base hown (Nat.zero_le _), fun b hb e => ?_⟩⟩
  have := (hown.lt b hb).1
  have := h.cnt.lt
  omega

set_option maxRecDepth 100000 in
set_option maxHeartbeats 4000000 in
theorem walk (a0 : Int) (a1 : Int) (s2 : Option Addr) (len2 cap2 : Nat) (z2 : Nat → Nat → Int) (w : World) (w0 : (Lit.int .i64 a0).wf = true) (w1 : (Lit.int .i64 a1).wf = true) (l2 : len2 ≤ cap2 ∧ cap2 ≤ maxLen ∧ (s2 = none → cap2 = 0)) (r2 : Structs w [.i64, .i64, .i64] s2 len2 z2) :
    Calls Try.prog 4 #[.int .i64 a0, .int .i64 a1, .slice s2 len2 cap2] w fun e w' => e = .returned (.bool true) ∧ Below w.heap.size w w' := by
  obtain ⟨t0, t1⟩ := i64_bd w0
  obtain ⟨u0, u1⟩ := i64_bd w1
  have hml : len2 ≤ 9223372036854775807 := by have := l2.1; have := l2.2.1; unfold maxLen at this; omega
  clear l2 w0 w1
  by_cases hbig : 6 < a0
  · clear r2
    go_enter Try.func4, Try.ntmps4
    go_wp2_with (go_at_call 6; refine (po_awake _).mono ?_; rintro e w6 ⟨rfl, hW6⟩)
    go_ret
    exact ⟨rfl, hW6.law⟩
  by_cases hlen : 40 < len2
  · clear r2
    go_enter Try.func4, Try.ntmps4
    go_wp2_with (go_at_call 6; refine (po_awake _).mono ?_; rintro e w6 ⟨rfl, hW6⟩)
    go_ret
    exact ⟨rfl, hW6.law⟩
  by_cases hbad : a0 < 1 ∨ 64 < a0 ∨ a1 < 1 ∨ 8 < a1
  · have c := po_new_no a0 a1 hbad w
    clear r2 hbad
    go_enter Try.func4, Try.ntmps4
    go_wp2_with (first
      | (go_at_call 7; with_reducible refine c.mono ?_; rintro e w' ⟨rfl, rfl⟩)
      | (go_at_call 6; refine (po_awake _).mono ?_; rintro e w6 ⟨rfl, hW6⟩))
    go_ret
    exact ⟨rfl, hW6.law⟩
  obtain ⟨T, rfl⟩ := Int.eq_ofNat_of_zero_le (show 0 ≤ a0 by omega)
  obtain ⟨e, rfl⟩ := Int.eq_ofNat_of_zero_le (show 0 ≤ a1 by omega)
  have n1 : 1 ≤ T := by omega
  have n2 : T ≤ 6 := by omega
  have e1 : 1 ≤ e := by omega
  have e2 : e ≤ 8 := by omega
  have hat := r2.at (by decide)
  have hm : T * e ≤ 6 * 8 := Nat.mul_le_mul n2 e2
  have HM := Lib.hid hm
  clear r2 hm hbad t0 t1 u0 u1
  have cN := wnew w n1 (show T ≤ 64 by omega) e1 e2
  go_enter Try.func4, Try.ntmps4
  go_wp2_with (go_at_call 7; with_reducible refine cN.mono ?_; intro en w1 h1; unfold WNew at h1; obtain ⟨p, rfl, hS⟩ := h1)
  clear cN
  go_loopw [41] (fun i wr => ∃ j : Nat, j ≤ len2 ∧ i = .int .i64 j ∧ WSt w p T e wr) (fun i _ => len2 - (intOf i).toNat)
  case atStart => exact ⟨0, Nat.zero_le _, rfl, hS⟩
  case round =>
    clear hS
    obtain ⟨j, hj, rfl, hS⟩ := hrel
    by_cases hlt : j < len2
    · rcases hat with h0 | ⟨b, o, rfl, hcell⟩
      · omega
      have hold : ∀ x v, w.cell? x = some v → wr.cell? x = some v := fun x v h => by obtain ⟨_, hP, _⟩ := hS; exact hP.wrote.old h
      have y0 : wr.cell? ⟨b, o + j * 3, none⟩ = some (.int .i64 (z2 j 0)) := hold _ _ (hcell j hlt 0 _ rfl).1
      have y1 : wr.cell? ⟨b, o + j * 3 + 1, none⟩ = some (.int .i64 (z2 j 1)) := hold _ _ (hcell j hlt 1 _ rfl).1
      have y2 : wr.cell? ⟨b, o + j * 3 + 2, none⟩ = some (.int .i64 (z2 j 2)) := hold _ _ (hcell j hlt 2 _ rfl).1
      generalize z2 j 0 = K at y0
      generalize z2 j 1 = to at y1
      generalize z2 j 2 = id at y2
      have cG := fun W (hW : Wrote Nil wr W) => wgive (hS.same hW) id to
      clear hcell hS hold
      go_wp2_with (go_at_call 14; with_reducible refine (cG _ ((Wrote.refl Nil wr).alloc _)).mono ?_; intro en w2 h2; unfold WGive at h2; obtain ⟨x, rfl, hS2⟩ := h2)
      go_roundw
      case rel => exact ⟨j + 1, by omega, by go_num, hS2⟩
      case measure => simp [intOf]; omega
    · obtain rfl : j = len2 := by omega
      clear hat
      obtain ⟨s, hP, hn, hT⟩ := hS
      have HS := Lib.hid (And.intro hP (And.intro hn hT))
      clear hP hn hT
      go_wp2
      obtain ⟨Z, hZ⟩ : ∃ Z : Array Value, Z = #[.int .i64 0, .int .i64 0, .int .i64 0, .int .i64 0, .int .i64 0, .int .i64 0, .int .i64 0, .int .i64 0, .int .i64 0, .int .i64 0, .int .i64 0, .int .i64 0, .int .i64 0, .int .i64 0, .int .i64 0, .int .i64 0, .int .i64 0, .int .i64 0, .int .i64 0, .int .i64 0, .int .i64 0, .int .i64 0, .int .i64 0, .int .i64 0, .int .i64 0, .int .i64 0, .int .i64 0, .int .i64 0, .int .i64 0, .int .i64 0, .int .i64 0, .int .i64 0, .int .i64 0, .int .i64 0, .int .i64 0, .int .i64 0, .int .i64 0, .int .i64 0, .int .i64 0, .int .i64 0, .int .i64 0, .int .i64 0, .int .i64 0, .int .i64 0, .int .i64 0, .int .i64 0, .int .i64 0, .int .i64 0, .int .i64 0, .int .i64 0, .int .i64 0, .int .i64 0, .int .i64 0, .int .i64 0, .int .i64 0, .int .i64 0, .int .i64 0, .int .i64 0, .int .i64 0, .int .i64 0, .int .i64 0, .int .i64 0, .int .i64 0, .int .i64 0] := ⟨_, rfl⟩
      rw [← hZ]
      have hZ2 : Z = Array.replicate 64 (.int .i64 0) := by rw [hZ]; rfl
      obtain ⟨M, hM⟩ : ∃ M, M = T * e := ⟨_, rfl⟩
      have hM9 : M ≤ 48 := by rw [hM]; exact HM.out
      have hTe : (T : Int) * (e : Int) = (M : Int) := by rw [hM, Int.natCast_mul]
      have HTe := Lib.hid hTe
      have hV : VSt w p wr.heap.size s 0 0 (wr.alloc (.cells Z 43)) := by
        refine ⟨HS.out.1.after ((Wrote.refl Nil wr).alloc _) fun k hk => ?_, ⟨Z, Go.Deep.blk_alloc_new _ _, by rw [hZ2]; simp, fun i hi => ?_⟩, HS.out.1.wrote.size⟩
        · have hk' : k = wr.heap.size := hk
          rw [Go.Deep.nblk_alloc]
          exact ⟨by omega, .inr (by omega)⟩
        · rw [hZ2, Array.getElem?_replicate, if_pos hi]
          unfold cntB seenB
          simp
      have hI := HS.out.1.inv
      have hn : s.n = M := by rw [hM]; exact HS.out.2.1
      have hT := HS.out.2.2
      have HI := Lib.hid (And.intro hI (And.intro hn hT))
      clear HS hZ hZ2 hM hI hn hT hTe HM
      generalize wr.alloc (.cells Z 43) = W2 at hV ⊢
      generalize wr.heap.size = k at hV ⊢
      go_loopw [53] (fun i wr => ∃ t : Nat, t ≤ T ∧ i = .int .i64 t ∧ VSt w p k s t 0 wr) (fun i _ => T - (intOf i).toNat)
      case atStart => exact ⟨0, Nat.zero_le _, rfl, hV⟩
      case round =>
        clear hV
        obtain ⟨t, ht, rfl, hV⟩ := hrel
        by_cases htT : t < T
        · have cR := vrow hV (by rw [HI.out.2.2]; exact htT)
          have hL9 : (s.row t).length ≤ 48 := by
            have := HI.out.1.len (show t < s.T by rw [HI.out.2.2]; exact htT)
            rw [HI.out.2.1] at this
            omega
          clear hV
          go_wp2_with (go_at_call 16; with_reducible refine cR.mono ?_; intro en w2 h2; unfold VRowPost at h2; obtain ⟨so, cap, rfl, hV2, hR2⟩ := h2)
          clear cR
          go_loopw [60] (fun i wr => ∃ j : Nat, j ≤ (s.row t).length ∧ i = .int .i64 j ∧ VSt w p k s t j wr ∧ VRow k (s.row t) so cap wr) (fun i _ => (s.row t).length - (intOf i).toNat)
          case atStart => exact ⟨0, Nat.zero_le _, rfl, hV2, hR2⟩
          case round =>
            clear hV2 hR2
            obtain ⟨j, hj, rfl, hV, hR⟩ := hrel
            by_cases hjl : j < (s.row t).length
            · obtain ⟨x, hx⟩ : ∃ x, (s.row t)[j]? = some x := ⟨_, List.getElem?_eq_getElem hjl⟩
              have hmx := HI.out.1.mem t x (by rw [HI.out.2.2]; exact htT) (List.mem_of_getElem? hx)
              rcases row_cell hR.row with h0 | ⟨g, rfl, hc⟩
              · omega
              have c0 := hc j x hx
              have x1 : 1 ≤ x := hmx.1
              have x2 : x ≤ 48 := by have := hmx.2.1; rw [HI.out.2.1] at this; omega
              have cO := pa_of hV.pool (x : Int)
              rw [ofI_at hmx.1 hmx.2.1, hmx.2.2] at cO
              have c1 := hV.cnt.cell (show x < 64 by omega)
              unfold cntB at c1
              rw [seen_no HI.out.1 (by rw [HI.out.2.2]; exact htT) hx] at c1
              simp only [Bool.false_eq_true, if_false] at c1
              have f1 := hV.cnt.frozen x
              have b1 : ¬ (x : Int) < 1 := by omega
              have b2 : ¬ (63 : Int) < x := by omega
              have b3 : (x : Int) < 64 := by omega
              have b4 : (0 : Int) ≤ x := by omega
              have HE := Lib.hid (hV.store hR hx (by omega))
              clear hV hR hc hmx hx
              go_wp2_with (go_at_call 17; with_reducible refine cO.mono ?_; rintro en w' ⟨rfl, rfl⟩)
              go_roundw
              case rel => exact ⟨j + 1, by omega, by go_num, HE.out.1, HE.out.2⟩
              case measure => simp [intOf]; omega
            · obtain hjL : j = (s.row t).length := by omega
              subst hjL
              have hV3 : VSt w p k s (t + 1) 0 wr := ⟨hV.pool, hV.cnt.congr fun i _ => by unfold cntB; rw [seen_next], hV.new⟩
              have H3 := Lib.hid hV3
              clear hV hR hV3
              go_wp2
              go_roundw
              case rel => exact ⟨t + 1, by omega, by go_num, H3.out⟩
              case measure => simp [intOf]; omega
        · obtain rfl : t = T := by omega
          have HV := Lib.hid hV
          clear hV
          go_wp2
          go_loopw [15] (fun i wr => ∃ x : Nat, 1 ≤ x ∧ x ≤ M + 1 ∧ i = .int .i64 x ∧ VSt w p k s t 0 wr) (fun i _ => M + 1 - (intOf i).toNat)
          case atStart => exact ⟨1, Nat.le_refl _, by omega, rfl, HV.out⟩
          case round =>
            clear HV
            obtain ⟨x, x1, x2, rfl, hV⟩ := hrel
            have cL := pa_len hV.pool
            rw [HI.out.2.1] at cL
            by_cases hxM : x ≤ M
            · have hxn : x ≤ s.n := by rw [HI.out.2.1]; exact hxM
              have b3 : (x : Int) < 64 := by omega
              have b4 : (0 : Int) ≤ x := by omega
              have b5 : (x : Int) ≤ M := by omega
              have c1 := hV.cnt.cell (show x < 64 by omega)
              unfold cntB at c1
              have hall := seen_all HI.out.1 x1 hxn
              rw [HI.out.2.2] at hall
              rcases hall with ⟨s1, s2⟩ | ⟨s1, u, s2⟩
              · rw [s1] at c1
                simp only [Bool.false_eq_true, if_false] at c1
                have cO : ∀ m, Calls Try.prog 17 #[.pointer (some ⟨p, 0, none⟩), .int .i64 (x : Int)] (wr.drewN m) fun e w' => e = .returned (.int .i64 (-1)) ∧ w' = wr.drewN m := fun m => by
                  have c := pa_of (hV.same ((Wrote.refl Nil wr).drewN m)).pool (x : Int)
                  rw [ofI_at x1 hxn, s2] at c
                  exact c.mono fun _ _ h => ⟨h.1, h.2.symm⟩
                have HV := Lib.hid hV
                clear hV s1 s2 hxn
                go_wp2_with (go_at_call 18; with_reducible refine cL.mono ?_; rintro en w' ⟨rfl, rfl⟩)
                go_big_quiet ((go_at_call 17; exact Calls.quiet_of_same (cO _)))
                go_wp2
                go_roundw
                case rel => exact ⟨x + 1, by omega, by omega, by go_num, HV.out.same ((Wrote.refl Nil wr).drewN nq)⟩
                case measure => simp [intOf]; omega
              · rw [s1] at c1
                simp only [if_true] at c1
                have cO : ∀ m, Calls Try.prog 17 #[.pointer (some ⟨p, 0, none⟩), .int .i64 (x : Int)] (wr.drewN m) fun e w' => e = .returned (.int .i64 (u : Int)) ∧ w' = wr.drewN m := fun m => by
                  have c := pa_of (hV.same ((Wrote.refl Nil wr).drewN m)).pool (x : Int)
                  rw [ofI_at x1 hxn, s2] at c
                  exact c.mono fun _ _ h => ⟨h.1, h.2.symm⟩
                have hu : ((u : Int) == -1) = false := by rw [beq_eq_false_iff_ne]; omega
                have hu2 : ¬ (u : Int) = -1 := by omega
                have HV := Lib.hid hV
                clear hV s1 s2 hxn
                go_wp2_with (go_at_call 18; with_reducible refine cL.mono ?_; rintro en w' ⟨rfl, rfl⟩)
                go_big_quiet ((go_at_call 17; exact Calls.quiet_of_same (cO _)))
                go_wp2
                go_roundw
                case rel => exact ⟨x + 1, by omega, by omega, by go_num, HV.out.same ((Wrote.refl Nil wr).drewN nq)⟩
                case measure => simp [intOf]; omega
            · have hTe := HTe.out
              have b5 : ¬ (x : Int) ≤ M := by omega
              have hp0 : (0 : Int) ≤ (t : Int) * (e : Int) := by rw [hTe]; omega
              have hp1 : (t : Int) * (e : Int) ≤ 48 := by rw [hTe]; omega
              have HW := Lib.hid hV.pool.wrote
              clear hV
              go_wp2_with (first
                | (go_at_call 18; with_reducible refine cL.mono ?_; rintro en w' ⟨rfl, rfl⟩)
                | (go_at_call 6; refine (po_awake _).mono ?_; rintro en w9 ⟨rfl, hW9⟩))
              go_ret
              exact ⟨rfl, (HW.out.nil hW9).law⟩

/-! the row -/
set_option maxRecDepth 100000 in
theorem lifted (os : Os) (started : os.Started) (H : Type) (enc : TypeId × Value → H) :
    ReturnsInHanded {} Try.checked os 4 .any (Rows.poolWholeSpec.pre6 enc Try.prog Try.f4 Rows.poolWholeRow.domain false) (Rows.poolWholeSpec.post enc Try.prog Try.f4 false true false false) := by
  refine returnsInHanded_of_change (C := Try.checked) own started (by kernel_rfl) Try.func4
    (ChangeSpec.witness6 (enc := enc) (C := Try.checked) false ⟨#[], #[.int .i64 0, .int .i64 0, .slice none 0 0], []⟩ 8 (by kernel_rfl) (by kernel_rfl) (by kernel_rfl) (by kernel_rfl)) ?_
  intro W base args ds gs before hval0 hW hcnd _
  have hval : ∀ (j : Nat) t v, Try.f4.params[j]? = some t → args[j]? = some v → Value.okWide Try.prog W .any base t v := hval0
  have hW' := hW
  obtain ⟨p, q, hA0, hV, rfl, hfz, hnd⟩ := hW
  have hA : DataW.TrodAll enc Try.prog W 0 (fun _ => true) true Try.f4.params.toList args.toList ds p := hA0
  rw [Try.params4] at hA hval
  obtain ⟨v0, vs0, d0, ds0, p0, q0, hargs, rfl, rfl, h0, r0'⟩ := trodAll_cons hA
  obtain ⟨v1, vs1, d1, ds1, p1, q1, rfl, rfl, rfl, h1, r1'⟩ := trodAll_cons r0'
  obtain ⟨v2, vs2, d2, ds2, p2, q2, rfl, rfl, rfl, h2, r2'⟩ := trodAll_cons r1'
  obtain ⟨rfl, rfl, rfl⟩ := trodAll_nil r2'
  obtain rfl : args = #[v0, v1, v2] := by cases args; simp_all
  obtain ⟨rfl, rfl⟩ := trodVars_none hV
  obtain ⟨a0, rfl, rfl, rfl, w0⟩ := open_int Try.underlying3 (hval 0 3 v0 rfl rfl) h0
  obtain ⟨a1, rfl, rfl, rfl, w1⟩ := open_int Try.underlying3 (hval 1 3 v1 rfl rfl) h1
  have k2 := h2
  have lt2 : ∀ x ∈ p2, x.block < W.heap.size := by obtain ⟨m, hm⟩ := k2; exact DataW.trod_lt m _ _ _ hm
  obtain ⟨s2, len2, cap2, rfl⟩ := okWide_slice Try.underlying22 (hval 2 22 v2 rfl rfl)
  obtain ⟨l2, z2, r2⟩ := open_slice_ints (ks := [.i64, .i64, .i64]) Try.underlying22 Try.underlying33 (by kernel_rfl) (by kernel_rfl) h2
  clear hA0 hval0
  refine (walk a0 a1 s2 len2 cap2 z2 W w0 w1 l2 r2).mono fun e W' ⟨he, bel⟩ => ?_
  subst he
  exact ⟨_, rfl, _, _, _, [], _, [], hW', trodAll_mk1 (shut_bool Try.underlying4 _), (trodAll_cons_mk (shut_int Try.underlying3 w0) (trodAll_cons_mk (shut_int Try.underlying3 w1) (trodAll_cons_mk (Below.trod laidOut (by kernel_rfl) (of_decide_eq_true (by kernel_rfl)) k2 bel lt2) trodAll_mk0))), rfl, bel.frame _, fun h => by cases h⟩

theorem over : Rows.poolWholeRow.holds Try.pinned (OpenSpec.ofChange Rows.poolWholeSpec) :=
  OpenClaim.holds_of_wide 4 Try.f4 rfl rfl rfl rfl rfl rfl rfl ⟨rfl, rfl, rfl, rfl, rfl⟩ rfl rfl rfl rfl rfl (by kernel_rfl) Try.func4 (by kernel_rfl)
    (of_decide_eq_true (by kernel_rfl)) (by unfold Func.isWrapper; first | (rw [if_pos (by decide +kernel)]; kernel_rfl) | (rw [if_neg (by decide +kernel)]; exact ⟨rfl, rfl⟩))
    (fun os started H enc _ => lifted os started H enc)

/-- the statement -/
theorem proved : Rows.PoolWholeSaid := over
#print axioms proved
end Go.Proofs.Ytjkheoiebabkhaa.poolWhole
