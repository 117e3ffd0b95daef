/- What slices.Backward promises of a list of entries. -/
import Derived.Test.YtihlokhejopphaaDoorTrText
import Derived.Test.YtihlokhejopphaaDoorTrRange
namespace Go.Proofs.YtihlokhejopphaaDoor
open Go.RowKit Go.Shelf
set_option linter.unusedVariables false
attribute [local go_sem] Oper.semAt_some

/-- an entry at its place, its thread within its kind -/
abbrev BE := { x : Nat × Ent // (Lit.int .i64 x.2.t).wf = true }
def encB (x : BE) : Array Value := #[.int .i64 (x.1.1 : Nat), .agg #[.int .i64 x.1.2.k, .int .i64 x.1.2.t, .int .i64 x.1.2.n, .bool x.1.2.ld]]
def entsB (l : List BE) : List Ent := l.map fun x => x.1.2
theorem entsB_snoc (l : List BE) (x : BE) : entsB (l ++ [x]) = entsB l ++ [x.1.2] := by simp [entsB]
theorem rev_take {D : List Ent} {j k : Nat} {x : Ent} (hx : D[j]? = some x) (hk : j + k + 1 = D.length) : D.reverse.take (k + 1) = D.reverse.take k ++ [x] := by
  have hlt : k < D.reverse.length := by rw [List.length_reverse]; omega
  rw [List.take_succ_eq_append_getElem hlt, List.getElem_reverse]
  have : D.length - 1 - k = j := by omega
  simp only [this]
  rw [(List.getElem?_eq_some_iff.1 hx).2]

/-- slices.Backward's own function value -/
theorem back_any (F : Fence) (n : Nat) (hF : F.fn 31) (hro : F.round = none) (a : Option Addr) (len cap : Nat) (w : World) :
    CallsIn F n Tryd.prog 31 #[.slice a len cap] w fun e w' => e = .returned (.func (.func 41) #[] #[.pointer (some ⟨w.heap.size, 0, none⟩)]) ∧ w' = w.alloc (.cells #[.slice a len cap] 22) := by
  refine callsIn_of_wp Tryd.func31 rfl hF ?_ hro
  simp only [Tryd.ntmps31, List.size_toArray, List.length_cons, List.length_nil, Nat.reduceAdd, Nat.reduceSub, Array.replicate_succ, Array.replicate_zero, List.push_toArray, List.append_toArray, List.nil_append, List.cons_append]
  gi_wp2
  go_ret
  exact ⟨rfl, rfl⟩

set_option maxRecDepth 100000 in
set_option maxHeartbeats 2000000 in
theorem back_stops (F : Fence) (n : Nat) (hF : F.fn 41) (hro : F.round = none) (hn : 1 ≤ n) (Bs : Nat) (sa : Option Addr) (len cap : Nat) (D : List Ent) (wB w0 : World)
    (hr : RecsAt eC 4 wB sa len D) (hlen : len ≤ 1000) (hwf : ∀ e ∈ D, (Lit.int .i64 e.t).wf = true) (hb : Below wB.heap.size wB w0) (hbox : w0.heap[Bs]? = some (.cells #[.slice sa len cap] 22 (0, 0))) :
    SeqC F n Tryd.prog 41 Bs wB.heap.size encB (fun ys => entsB ys = D.reverse) (fun pre => ∃ k, k ≤ len ∧ entsB pre = D.reverse.take k) len w0 := by
  intro l J Jx W hW hJ hJx hY h0
  have hl := hr.len
  have hbW : W.heap[Bs]? = some (.cells #[.slice sa len cap] 22 (0, 0)) := (hW.block Bs (blk_lt hbox)).trans hbox
  have hlow : Below wB.heap.size wB W := hb.trans (hW.mono hb.size)
  have hY := Lib.hid hY
  have HR := Lib.hid (And.intro hr (And.intro hl (And.intro hlow hwf)))
  have hcb : W.cell? ⟨Bs, 0, none⟩ = some (.slice sa len cap) := blk_cell hbW 0
  have HB := Lib.hid hbW
  clear hW hr hl hlow hwf hbW hb hbox hJ hJx
  refine callsIn_of_wp Tryd.func41 rfl hF ?_ hro
  simp only [Tryd.ntmps41, List.size_toArray, List.length_cons, List.length_nil, Nat.reduceAdd, Nat.reduceSub, Array.replicate_succ, Array.replicate_zero, List.push_toArray, List.append_toArray, List.nil_append, List.cons_append]
  gi_wp2
  gi_loopw [3] (fun i wr => ∃ (k : Nat) (z : Int) (pre : List BE), k ≤ len ∧ i = .int .i64 z ∧ z + k = len - 1 ∧ pre.length = k ∧ entsB pre = D.reverse.take k ∧ J pre wr ∧ Kept wB.heap.size Bs W wr)
    (fun i _ => (intOf i + 1).toNat)
  case atStart => exact ⟨0, len - 1, [], Nat.zero_le _, by simp, by omega, rfl, rfl, h0, Kept.refl _ _ _⟩
  case round =>
    obtain ⟨k, z, pre, hk, rfl, hz, hpl, hpre, hJs, hK⟩ := hrel
    by_cases hlt : k < len
    · obtain ⟨j, rfl⟩ : ∃ j : Nat, z = j := ⟨z.toNat, by omega⟩
      have hjl : j < len := by omega
      have hjl' : (j : Int) < len := by omega
      have j0 : (0 : Int) ≤ j := by omega
      obtain ⟨⟨x0, x1, x2, x3⟩, hx⟩ : ∃ x, D[j]? = some x := ⟨D[j]'(by rw [HR.out.2.1]; exact hjl), List.getElem?_eq_getElem _⟩
      have hwx : (Lit.int .i64 x1).wf = true := HR.out.2.2.2 _ (List.mem_of_getElem? hx)
      rcases (HR.out.1.after (Wrote.ofBelow (HR.out.2.2.1.trans hK.low))).at eC_ne with h0' | ⟨b, o, rfl, hc⟩
      · omega
      obtain ⟨e0, e1, e2, e3⟩ := cells_e hc hx
      have hcr : wr.cell? ⟨Bs, 0, none⟩ = some (.slice (some ⟨b, o, none⟩) len cap) := blk_cell (hK.box _ HB.out) 0
      obtain ⟨fn, tmps, assign, body, hy, hR⟩ := hY.out pre ⟨(j, ⟨x0, x1, x2, x3⟩), hwx⟩ wr hJs (by rw [hpl]; exact hlt)
      dsimp only [encB] at hy
      have HX := Lib.hid (And.intro hx (And.intro hpre (And.intro hpl hK)))
      clear hc hx hpre hpl hK
      gi_wp2
      refine hR.mono ?_
      rintro e W3 (⟨rfl, hJ3, hk3⟩ | ⟨rfl, hJx3⟩)
      · gi_wp2
        go_roundw
        case rel => exact ⟨k + 1, (j : Int) - 1, pre ++ [⟨(j, ⟨x0, x1, x2, x3⟩), hwx⟩], by omega, by go_num, by omega, by rw [List.length_append, HX.out.2.2.1]; rfl, by rw [entsB_snoc, HX.out.2.1, rev_take HX.out.1 (by rw [HR.out.2.1]; omega)], hJ3, HX.out.2.2.2.trans hk3⟩
        case measure => simp [intOf]
      · gi_wp2
        refine bodyPost_ret (results_none rfl _ _ _) rfl ?_
        exact ⟨⟨_, rfl⟩, .inr ⟨_, ⟨k + 1, by omega, by rw [entsB_snoc, HX.out.2.1, rev_take HX.out.1 (by rw [HR.out.2.1]; omega)]⟩, hJx3⟩⟩
    · obtain rfl : k = len := by omega
      obtain rfl : z = -1 := by omega
      have hpre2 : entsB pre = D.reverse := by rw [hpre]; exact List.take_of_length_le (by rw [List.length_reverse, HR.out.2.1]; exact Nat.le_refl _)
      have HP := Lib.hid (And.intro hpre2 hJs)
      clear hpre2 hpre hJs
      gi_wp2
      go_end0
      exact ⟨⟨_, rfl⟩, .inl ⟨_, HP.out.1, HP.out.2⟩⟩
end Go.Proofs.YtihlokhejopphaaDoor
