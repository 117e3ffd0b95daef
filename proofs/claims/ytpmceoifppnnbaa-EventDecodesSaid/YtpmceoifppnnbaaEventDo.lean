/- The contracts of package event's Decode, write and Encode. -/
import Derived.Test.YtpmceoifppnnbaaEventAsk
import Derived.Test.YtpmceoifppnnbaaGrow
namespace Go.Proofs.Ytpmceoifppnnbaa
open Go.RowKit
set_option linter.unusedVariables false

theorem info_ev : (Try.prog.info? 29).map (fun i => (i.zero, i.size, i.bytes)) = some (some (.agg #[.int .i64 0, .int .i64 0, .int .i64 0]), 3, 24) := by kernel_rfl
theorem info_u8 : (Try.prog.info? 5).map (fun i => (i.zero, i.size, i.bytes)) = some (some (.int .u8 0), 1, 1) := by kernel_rfl

/-- within Decode: k bytes are done -/
structure DecSt (w0 w : World) (zs : List Int) (k : Nat) (sa : Option Addr) (D : List Ev) (dv : Value) : Prop where
  row : RowAt .u8 w0 sa (zs.length - k) (zs.drop k)
  grow : Grow 29 3 w0 w0.heap.size w D.length (D.flatMap evCells) dv
  evs : evs zs = D ++ evs (zs.drop k)
  few : D.length ≤ k
theorem DecSt.step {w0 w w' : World} {zs : List Int} {k m c sz : Nat} {sb : Option Addr} {D : List Ev} {x : Ev} {dv v' : Value} (h : DecSt w0 w zs k sb D dv) (hm : zs.length - k = m) (h0 : 0 < m) (hc : m ≤ c) (h1 : 1 ≤ sz) (h2 : sz ≤ m)
    (hx : x = firstE (zs.drop k)) (hs : sz = sizeE (zs.drop k)) (hg : Grow 29 3 w0 w0.heap.size w' (D.length + 1) (D.flatMap evCells ++ evCells x) v') :
    DecSt w0 w' zs (k + sz) (if c = sz then sb else Option.map (fun x => x.add sz) sb) (D ++ [x]) v' := by
  have hr := h.row
  rw [hm] at hr
  have h3 := hr.cut sz c h2 h0 hc
  have hne : zs.drop k ≠ [] := by intro h; have := congrArg List.length h; simp at this; omega
  refine ⟨?_, by simpa using hg, ?_, by have := h.few; simp; omega⟩
  · rw [show zs.length - (k + sz) = m - sz by omega, ← List.drop_drop]
    exact h3
  · rw [h.evs, evs_cons _ hne, ← hx, ← hs, List.drop_drop]
    simp
def EvsPost (w : World) (zs : List Int) (e : Ending) (w' : World) : Prop :=
  ∃ dv, e = .returned dv ∧ Grow 29 3 w w.heap.size w' (evs zs).length ((evs zs).flatMap evCells) dv

set_option maxHeartbeats 1000000 in
theorem ev_decode {w : World} {sa : Option Addr} {n cap : Nat} {zs : List Int} (h : RowAt .u8 w sa n zs) (hb : Bytes zs) (hm : n ≤ 1000000) (hcap : n ≤ cap) :
    Calls Try.prog 7 #[.slice sa n cap] w (EvsPost w zs) := by
  have hl := h.len
  obtain ⟨i0, hi, hz0, hz1, hz2⟩ := info_parts3 info_ev
  have h0 : DecSt w w zs 0 sa [] (.slice none 0 0) := ⟨by simpa [hl] using h, grow_here _ _ _, rfl, Nat.le_refl _⟩
  have HZ := Lib.hid (And.intro hl hb)
  clear hl hb h
  go_enter Try.func7, Try.ntmps7
  go_wp2
  go_loopw [0, 3] (fun bv dv wr => ∃ (k : Nat) (sa : Option Addr) (c m : Nat) (D : List Ev) (dv0 : Value), dv0 = dv ∧ k ≤ n ∧ bv = .slice sa m c ∧ Hid (m = n - k) ∧ m ≤ c ∧ DecSt w wr zs k sa D dv) (fun bv _ _ => lenV bv)
  case atStart => exact ⟨0, sa, cap, n, [], _, rfl, Nat.zero_le _, rfl, Lib.hid rfl, hcap, h0⟩
  case round =>
    clear h0
    obtain ⟨k, sb, c, m, D, dv, rfl, hk, rfl, hmn, hmc, hD⟩ := hrel
    by_cases hlt : 0 < m
    · have hmm : m ≤ 1000000 := by have := hmn.out; omega
      have hr := hD.row.after hD.grow.wrote
      have e1 : zs.length - k = m := by rw [HZ.out.1, hmn.out]
      rw [e1] at hr
      have hne : zs.drop k ≠ [] := by intro h; have := congrArg List.length h; simp at this; omega
      have hs0 := sizeE_pos (zs.drop k)
      have hs1 := sizeE_le _ hne
      obtain ⟨sz, hsz⟩ : ∃ sz, sz = sizeE (zs.drop k) := ⟨_, rfl⟩
      obtain ⟨⟨x0, x1, x2⟩, hx⟩ : ∃ x, x = firstE (zs.drop k) := ⟨_, rfl⟩
      have c1 : Calls Try.prog 12 #[.slice sb m c] wr fun e w' => e = .returned (.tuple #[.agg #[.int .i64 x0, .int .i64 x1, .int .i64 x2], .int .i64 (sz : Nat)]) ∧ Wrote Nil wr w' := by
        have h := ev_first (cap := c) hr (HZ.out.2.drop k) hlt hmm
        unfold FirstPost at h
        rw [← hx, ← hsz] at h
        exact h
      rw [← hsz] at hs0 hs1
      simp only [List.length_drop, e1] at hs1
      have hG := hD.grow
      have hDk := hD.few
      have HD := Lib.hid (And.intro hD (And.intro e1 (And.intro hx hsz)))
      clear hD hr e1 hx hsz hne
      go_wp2_with (first
        | (go_at_call 12; with_reducible refine c1.mono ?_; rintro e w1 ⟨rfl, hW1⟩; have hG1 := (hG.after hW1).after (((Wrote.refl Nil w1).alloc (.cells #[.int .i64 x0, .int .i64 x1, .int .i64 x2] 29)).alloc (.cells #[.int .i64 x0, .int .i64 x1, .int .i64 x2] 29)); have HG1 := Lib.hid hG1; clear hG1 hW1)
        | (at_builtin; refine wpList_append_own _ rfl _ _ 24 rfl w.heap.size 29 i0 (.agg #[.int .i64 0, .int .i64 0, .int .i64 0]) 3 24 Try.underlying24 hi hz0 hz1 hz2 rfl (by decide) dv D.length (D.flatMap evCells) rfl HG1.out.own ⟨w1.heap.size + 1, 0, none⟩ 1 1 (evCells (x0, x1, x2)) rfl rfl (news_at _ _ _ _ (by simp)) (ev_one _) (by unfold maxLen; omega) (by omega) HG1.out.size ?_; intro v' w6 hown hgrow hnil; have hG6 := HG1.out.more hown hgrow; have HG6 := Lib.hid hG6; clear hG6 hown hgrow hnil))
      exact ⟨⟨k + sz, _, _, _, D ++ [(x0, x1, x2)], _, rfl, by have := hmn.out; omega, rfl, Lib.hid (by have := hmn.out; omega), by omega, HD.out.1.step HD.out.2.1 hlt hmc hs0 hs1 HD.out.2.2.1 HD.out.2.2.2 HG6.out⟩, by simp only [lenV]; omega⟩
    · obtain rfl : m = 0 := by omega
      have hE : evs zs = D := by
        have h1 := hD.evs
        have h2 : zs.drop k = [] := List.drop_eq_nil_of_le (by have := hmn.out; have := HZ.out.1; omega)
        rwa [h2, show evs [] = [] from rfl, List.append_nil] at h1
      have hP : EvsPost w zs (.returned dv) wr := ⟨dv, rfl, by rw [hE]; exact hD.grow⟩
      have HP := Lib.hid hP
      clear hE hP hD
      go_wp2
      go_ret
      exact HP.out
end Go.Proofs.Ytpmceoifppnnbaa
