/- For every input the Go function PortNews of weighlocklaw04 returns true, and its arguments read afterwards as before. Conditions: none. -/
import Derived.Test.YtpcmgbcehleigaaRows
import Derived.WalkKit
import Derived.ProofKit
import Derived.OpenShut
import Derived.ChangeOld
import Derived.Below
import Derived.Carry
import Derived.Test.YtpcmgbcehleigaaPortLaw
import Derived.Lib.Hide
import Derived.BigRegion
namespace Go.Proofs.Ytpcmgbcehleigaa.portNews
open Go.ChangeShapes Go.WideShapes Go.ChangeAt Go.RowKit
set_option linter.unusedVariables false

theorem own : ownKnob Try.prog.godebug = none := by kernel_rfl
theorem laidOut : laidOutB Try.prog = true := by kernel_rfl

/-! the walk -/
theorem home_at {hs : List Int} {k : Nat} (h : homesOK hs = true) (hk : k < hs.length) : 0 ≤ hs.getD k 0 ∧ hs.getD k 0 < 8 := by
  unfold homesOK at h
  rw [List.all_eq_true] at h
  have e : hs.getD k 0 = hs[k] := by simp [hk]
  have := h hs[k] (List.getElem_mem hk)
  rw [e]
  simpa [okH] using this
theorem cnt_new (n : Nat) (t : Int) : cntI (List.replicate n 0) t = 0 := by
  unfold cntI
  split
  · rw [List.getD_eq_getElem?_getD, List.getElem?_replicate]
    split <;> rfl
  · rfl

/-- behind k rounds of the change of what was handed in -/
structure NSt (w0 : World) (q : Place) (so sv : Option Addr) (m n : Nat) (z1 z2 : List Int) (w : World) (k : Nat) : Prop where
  port : PortAt w q z1 (newS n z2)
  homes : ∃ zs, RowAt .i64 w so m zs ∧ ∀ j, k ≤ j → zs.getD j 0 = z1.getD j 0
  words : ∃ zs, RowAt .u32 w sv m zs ∧ ∀ j, k ≤ j → zs.getD j 0 = z2.getD j 0
  fz1 : ∀ b, so = some b → ∀ j, w.frozen? ⟨b.block, j, none⟩ = false
  fz2 : ∀ b, sv = some b → ∀ j, w.frozen? ⟨b.block, j, none⟩ = false
  wrote : Wrote Nil w0 w
namespace NSt
variable {w0 : World} {q : Place} {g v m n : Nat} {z1 z2 : List Int} {w : World} {k : Nat}
theorem cells (h : NSt w0 q (some ⟨g, 0, none⟩) (some ⟨v, 0, none⟩) m n z1 z2 w k) (hk : k < m) : w.cell? ⟨g, k, none⟩ = some (.int .i64 (z1.getD k 0)) ∧ w.cell? ⟨v, k, none⟩ = some (.int .u32 (z2.getD k 0)) ∧ w.frozen? ⟨g, k, none⟩ = false ∧ w.frozen? ⟨v, k, none⟩ = false := by
  obtain ⟨a, ha, ha'⟩ := h.homes
  obtain ⟨b, hb, hb'⟩ := h.words
  have c1 := ha.cell _ rfl k hk
  have c2 := hb.cell _ rfl k hk
  rw [Go.Addr.add_lit, Nat.zero_add] at c1 c2
  exact ⟨by rw [c1, ha' k (Nat.le_refl _)], by rw [c2, hb' k (Nat.le_refl _)], h.fz1 _ rfl k, h.fz2 _ rfl k⟩
theorem after {so sv : Option Addr} {w' : World} (h : NSt w0 q so sv m n z1 z2 w k) (K : Wrote Nil w w') (hf : ∀ a, w'.frozen? a = w.frozen? a) : NSt w0 q so sv m n z1 z2 w' k := by
  obtain ⟨a, ha, ha'⟩ := h.homes
  obtain ⟨b, hb, hb'⟩ := h.words
  exact ⟨h.port.after K, ⟨a, ha.after K, ha'⟩, ⟨b, hb.after K, hb'⟩, fun b hb j => by rw [hf]; exact h.fz1 b hb j, fun b hb j => by rw [hf]; exact h.fz2 b hb j, h.wrote.nil K⟩
/-- both are stored -/
theorem step (h : NSt w0 q (some ⟨g, 0, none⟩) (some ⟨v, 0, none⟩) m n z1 z2 w k) (hk : k < m) (x y : Int) (hg : w0.heap.size ≤ g) (hgv : g < v) (hv : v < q.k0) :
    NSt w0 q (some ⟨g, 0, none⟩) (some ⟨v, 0, none⟩) m n z1 z2 ((w.setCell ⟨g, k, none⟩ (.int .i64 x)).setCell ⟨v, k, none⟩ (.int .u32 y)) (k + 1) := by
  obtain ⟨a, ha, ha'⟩ := h.homes
  obtain ⟨b, hb, hb'⟩ := h.words
  have K : Wrote (fun b => b = g ∨ b = v) w ((w.setCell ⟨g, k, none⟩ (.int .i64 x)).setCell ⟨v, k, none⟩ (.int .u32 y)) := ((Wrote.refl _ w).setCell _ _ fun _ => .inl rfl).setCell _ _ fun _ => .inr rfl
  have K1 : Wrote (One g) w (w.setCell ⟨g, k, none⟩ (.int .i64 x)) := (Wrote.refl _ w).setCell _ _ fun _ => rfl
  have K2 : Wrote (One v) (w.setCell ⟨g, k, none⟩ (.int .i64 x)) ((w.setCell ⟨g, k, none⟩ (.int .i64 x)).setCell ⟨v, k, none⟩ (.int .u32 y)) := (Wrote.refl _ _).setCell _ _ fun _ => rfl
  have a0 := ha.set k hk x
  rw [Nat.zero_add] at a0
  have a1 := a0.wrote (S := One v) K2 (fun b hb => by obtain rfl : (⟨g, 0, none⟩ : Addr) = b := Option.some.inj hb; intro e; have e' : g = v := e; omega)
  have b1 := (hb.wrote (S := One g) K1 (fun b hb => by obtain rfl : (⟨v, 0, none⟩ : Addr) = b := Option.some.inj hb; intro e; have e' : v = g := e; omega)).set k hk y
  rw [Nat.zero_add] at b1
  refine ⟨h.port.wrote K (fun b h0 h3 e => by rcases e with e | e <;> omega), ⟨_, a1, fun j hj => ?_⟩, ⟨_, b1, fun j hj => ?_⟩, fun b hb j => ?_, fun b hb j => ?_, h.wrote.trans K (fun b hb e => absurd hb (by rcases e with e | e <;> omega))⟩
  · rw [← ha' j (by omega)]
    simp [show ¬ k = j by omega]
  · rw [← hb' j (by omega)]
    simp [show ¬ k = j by omega]
  · rw [World.frozen?_setCell, World.frozen?_setCell]
    exact h.fz1 b hb j
  · rw [World.frozen?_setCell, World.frozen?_setCell]
    exact h.fz2 b hb j
end NSt

set_option maxRecDepth 100000 in
set_option maxHeartbeats 2000000 in
theorem walk (a0 : Int) (s1 : Option Addr) (len1 cap1 : Nat) (z1 : List Int) (s2 : Option Addr) (len2 cap2 : Nat) (z2 : List Int) (w : World) (w0 : (Lit.int .i64 a0).wf = true) (l1 : len1 ≤ cap1 ∧ cap1 ≤ maxLen ∧ (s1 = none → cap1 = 0)) (r1 : RowAt .i64 w s1 len1 z1) (w1 : ∀ z ∈ z1, (Lit.int .i64 z).wf = true) (l2 : len2 ≤ cap2 ∧ cap2 ≤ maxLen ∧ (s2 = none → cap2 = 0)) (r2 : RowAt .u32 w s2 len2 z2) (w2 : ∀ z ∈ z2, (Lit.int .u32 z).wf = true) :
    Calls Try.prog 4 #[.int .i64 a0, .slice s1 len1 cap1, .slice s2 len2 cap2] w fun e w' => e = .returned (.bool true) ∧ Below w.heap.size w w' := by
  obtain ⟨i0, hi, hz0, hz1, hz2⟩ := info_parts info_int
  obtain ⟨i1, gi, gz0, gz1, gz2⟩ := info_parts info_u32
  have hml1 : len1 ≤ 9223372036854775807 := by have := l1.1; have := l1.2.1; unfold maxLen at this; omega
  have hml2 : len2 ≤ 9223372036854775807 := by have := l2.1; have := l2.2.1; unfold maxLen at this; omega
  by_cases hbig : 60 < len1 ∨ (¬ 60 < len1 ∧ 60 < len2)
  · clear r1 r2 w0 w1 w2 l1 l2
    rcases hbig with h | ⟨h, h'⟩
    all_goals
      go_enter Try.func4, Try.ntmps4
      go_wp2_with (go_at_call 7; refine (awake_any _).mono ?_; rintro e w6 ⟨rfl, hW6⟩)
      go_ret
      exact ⟨rfl, hW6.law⟩
  have k1 : ¬ 60 < len1 := by omega
  have k2 : ¬ 60 < len2 := by omega
  clear hbig
  by_cases hbad : a0 < 1 ∨ (¬ a0 < 1 ∧ 64 < a0) ∨ (¬ a0 < 1 ∧ ¬ 64 < a0 ∧ len1 ≠ len2)
  · have cN : ∀ (sa sb : Option Addr) (c1 c2 : Nat) (w : World), Calls Try.prog 8 #[.int .i64 a0, .slice sa len1 c1, .slice sb len2 c2] w fun e w' => e = .returned (.tuple #[.pointer none, .int .i64 1]) ∧ w' = w := fun _ _ _ _ _ => pnew_bad a0 hbad hml1 hml2
    have hbad' : a0 < 1 ∨ (¬ a0 < 1 ∧ 64 < a0) ∨ (¬ a0 < 1 ∧ ¬ 64 < a0 ∧ ((len1 : Int) == len2) = false ∧ ¬ (len1 : Int) = len2) := by
      rcases hbad with h | h | ⟨h, h', h''⟩
      · exact .inl h
      · exact .inr (.inl h)
      · exact .inr (.inr ⟨h, h', by simp; omega, by omega⟩)
    clear hbad w0 w1 w2
    rcases hbad' with h | ⟨h, h'⟩ | ⟨h, h', h'', h3⟩
    all_goals
      go_enter Try.func4, Try.ntmps4
      go_wp2_with (first
        | (at_builtin; refine wpList_append_row rfl _ _ 29 rfl w.heap.size 3 i0 (.int .i64 0) 8 Try.underlying29 hi hz0 hz1 hz2 rfl .i64 _ 0 [] rfl (World.ownsRow_made w #[] 0 (Nat.le_refl _) (by unfold maxLen; omega) rfl) s1 len1 cap1 z1 rfl (r1.after ((Wrote.refl Nil w).alloc _)) l1.2.2 (by unfold maxLen; omega) (by omega) (by simp) ?_; intro v' wa hown' hgrow; rw [Nat.zero_add, List.nil_append] at hown'; obtain ⟨so, cp, rfl, hcp1, hcp2, hra, hsob⟩ := own_rowAt hown'; have hWa : Wrote Nil w wa := ((Wrote.refl Nil w).alloc _).grown hgrow (fun j hj hlt => by have e : w.heap.size = j := Option.some.inj hj; omega); clear hown' hgrow hcp1 hcp2)
        | (at_builtin; refine wpList_append_row rfl _ _ 22 rfl wa.heap.size 32 i1 (.int .u32 0) 4 Try.underlying22 gi gz0 gz1 gz2 rfl .u32 _ 0 [] rfl (World.ownsRow_made wa #[] 0 (Nat.le_refl _) (by unfold maxLen; omega) rfl) s2 len2 cap2 z2 rfl (r2.after (hWa.nil ((Wrote.refl Nil wa).alloc _))) l2.2.2 (by unfold maxLen; omega) (by omega) (by simp) ?_; intro v' wb hown' hgrow; rw [Nat.zero_add, List.nil_append] at hown'; obtain ⟨sv, cv, rfl, hcp1, hcp2, hrb, hsvb⟩ := own_rowAt hown'; have hWb : Wrote Nil wa wb := ((Wrote.refl Nil wa).alloc _).grown hgrow (fun j hj hlt => by have e : wa.heap.size = j := Option.some.inj hj; omega); have hra2 := hra.after hWb; clear hown' hgrow hcp1 hcp2)
        | (go_at_call 8; with_reducible refine (cN _ _ _ _ _).mono ?_; rintro e w3 ⟨rfl, rfl⟩)
        | (go_at_call 7; refine (awake_any _).mono ?_; rintro e w6 ⟨rfl, hW6⟩))
      go_ret
      exact ⟨rfl, ((hWa.nil hWb).nil hW6).law⟩
  have h1 : ¬ a0 < 1 := by omega
  have h2 : ¬ 64 < a0 := by omega
  obtain rfl : len1 = len2 := by omega
  obtain ⟨n, rfl⟩ := Int.eq_ofNat_of_zero_le (show 0 ≤ a0 by omega)
  clear hbad hml2 k2
  cases hok : homesOK z1
  · go_enter Try.func4, Try.ntmps4
    go_wp2_with (first
      | (at_builtin; refine wpList_append_row rfl _ _ 29 rfl w.heap.size 3 i0 (.int .i64 0) 8 Try.underlying29 hi hz0 hz1 hz2 rfl .i64 _ 0 [] rfl (World.ownsRow_made w #[] 0 (Nat.le_refl _) (by unfold maxLen; omega) rfl) s1 len1 cap1 z1 rfl (r1.after ((Wrote.refl Nil w).alloc _)) l1.2.2 (by unfold maxLen; omega) (by omega) (by simp) ?_; intro v' wa hown' hgrow; rw [Nat.zero_add, List.nil_append] at hown'; obtain ⟨so, cp, rfl, hcp1, hcp2, hra, hsob⟩ := own_rowAt hown'; have hWa : Wrote Nil w wa := ((Wrote.refl Nil w).alloc _).grown hgrow (fun j hj hlt => by have e : w.heap.size = j := Option.some.inj hj; omega); clear hown' hgrow hcp1 hcp2)
      | (at_builtin; refine wpList_append_row rfl _ _ 22 rfl wa.heap.size 32 i1 (.int .u32 0) 4 Try.underlying22 gi gz0 gz1 gz2 rfl .u32 _ 0 [] rfl (World.ownsRow_made wa #[] 0 (Nat.le_refl _) (by unfold maxLen; omega) rfl) s2 len1 cap2 z2 rfl (r2.after (hWa.nil ((Wrote.refl Nil wa).alloc _))) l2.2.2 (by unfold maxLen; omega) (by omega) (by simp) ?_; intro v' wb hown' hgrow; rw [Nat.zero_add, List.nil_append] at hown'; obtain ⟨sv, cv, rfl, hcp1, hcp2, hrb, hsvb⟩ := own_rowAt hown'; have hWb : Wrote Nil wa wb := ((Wrote.refl Nil wa).alloc _).grown hgrow (fun j hj hlt => by have e : wa.heap.size = j := Option.some.inj hj; omega); have hra2 := hra.after hWb; clear hown' hgrow hcp1 hcp2)
      | (go_at_call 8; refine (pnew_homes _ hra2 (by omega) (by omega) (by omega) hok).mono ?_; rintro e w3 ⟨rfl, hW3⟩)
      | (go_at_call 17; have c := homes_any (cap := cap1) (r1.after ((hWa.nil hWb).nil hW3)) hml1; rw [hok] at c; with_reducible refine c.mono ?_; rintro e w' ⟨rfl, rfl⟩)
      | (go_at_call 7; refine (awake_any _).mono ?_; rintro e w6 ⟨rfl, hW6⟩))
    go_ret
    exact ⟨rfl, (((hWa.nil hWb).nil hW3).nil hW6).law⟩
  · have hwf := wf_getD w2
    go_enter Try.func4, Try.ntmps4
    go_wp2_with (first
      | (at_builtin; refine wpList_append_row rfl _ _ 29 rfl w.heap.size 3 i0 (.int .i64 0) 8 Try.underlying29 hi hz0 hz1 hz2 rfl .i64 _ 0 [] rfl (World.ownsRow_made w #[] 0 (Nat.le_refl _) (by unfold maxLen; omega) rfl) s1 len1 cap1 z1 rfl (r1.after ((Wrote.refl Nil w).alloc _)) l1.2.2 (by unfold maxLen; omega) (by omega) (by simp) ?_; intro v' wa hown' hgrow; rw [Nat.zero_add, List.nil_append] at hown'; obtain ⟨so, cp, rfl, hcp1, hcp2, hra, hsob⟩ := own_rowAt hown'; have hWa : Wrote Nil w wa := ((Wrote.refl Nil w).alloc _).grown hgrow (fun j hj hlt => by have e : w.heap.size = j := Option.some.inj hj; omega); clear hown' hgrow hcp1 hcp2)
      | (at_builtin; refine wpList_append_row rfl _ _ 22 rfl wa.heap.size 32 i1 (.int .u32 0) 4 Try.underlying22 gi gz0 gz1 gz2 rfl .u32 _ 0 [] rfl (World.ownsRow_made wa #[] 0 (Nat.le_refl _) (by unfold maxLen; omega) rfl) s2 len1 cap2 z2 rfl (r2.after (hWa.nil ((Wrote.refl Nil wa).alloc _))) l2.2.2 (by unfold maxLen; omega) (by omega) (by simp) ?_; intro v' wb hown' hgrow; rw [Nat.zero_add, List.nil_append] at hown'; obtain ⟨sv, cv, rfl, hcp1, hcp2, hrb, hsvb⟩ := own_rowAt hown'; have hWb : Wrote Nil wa wb := ((Wrote.refl Nil wa).alloc _).grown hgrow (fun j hj hlt => by have e : wa.heap.size = j := Option.some.inj hj; omega); have hra2 := hra.after hWb; clear hown' hgrow hcp1 hcp2)
      | (go_at_call 8; refine (pnew_good (w0 := wb) (Wrote.refl Nil wb) hra2 hrb hwf (by omega) (by omega) (by omega) hok).mono ?_; intro e w3 h3; unfold NewPortPost at h3; obtain ⟨q, rfl, hP, q0, q3, hW3⟩ := h3; have d0 := hP.cell0)
      | (go_at_call 17; have c := homes_any (cap := cap1) (r1.after ((hWa.nil hWb).nil hW3)) hml1; rw [hok] at c; with_reducible refine c.mono ?_; rintro e w' ⟨rfl, hw'⟩; subst w')
      | (go_at_call 18; have c := pthreads_any hP; rw [show (newS n z2).ac.length = n by simp [newS]] at c; with_reducible refine c.mono ?_; rintro e w' ⟨rfl, hw'⟩; subst w')
      | (go_at_call 19; have c := len_any hP.mem; rw [show (newS n z2).ws.length = len1 from r2.len] at c; with_reducible refine c.mono ?_; rintro e w' ⟨rfl, hw'⟩; subst w')
      | (go_at_call 7; refine (awake_any _).mono ?_; rintro e w6 ⟨rfl, hW6⟩))
    have hso : len1 = 0 ∨ ∃ g, so = some ⟨g, 0, none⟩ ∧ w.heap.size ≤ g ∧ g < wa.heap.size := by
      cases so with
      | none => exact .inl (hra.empty rfl)
      | some ad =>
        obtain ⟨g, o, sp⟩ := ad
        obtain ⟨x0, x1, rfl, rfl, _⟩ := hsob _ rfl
        exact .inr ⟨g, rfl, x0, x1⟩
    have hsv : len1 = 0 ∨ ∃ g, sv = some ⟨g, 0, none⟩ ∧ wa.heap.size ≤ g ∧ g < wb.heap.size := by
      cases sv with
      | none => exact .inl (hrb.empty rfl)
      | some ad =>
        obtain ⟨g, o, sp⟩ := ad
        obtain ⟨x0, x1, rfl, rfl, _⟩ := hsvb _ rfl
        exact .inr ⟨g, rfl, x0, x1⟩
    have sz1 := hWa.size
    have sz2 := hWb.size
    have F1 : ∀ b', so = some b' → ∀ j, w3.frozen? ⟨b'.block, j, none⟩ = false := fun b' hb' j => by
      obtain ⟨_, x1, _, _, x4⟩ := hsob b' hb'
      rw [World.frozen?_of_block (w := wa) (a := ⟨b'.block, j, none⟩) ((hWb.nil hW3).block _ x1 id)]
      exact x4 j
    have F2 : ∀ b', sv = some b' → ∀ j, w3.frozen? ⟨b'.block, j, none⟩ = false := fun b' hb' j => by
      obtain ⟨_, x1, _, _, x4⟩ := hsvb b' hb'
      rw [World.frozen?_of_block (w := wb) (a := ⟨b'.block, j, none⟩) (hW3.block _ x1 id)]
      exact x4 j
    have hN0 : NSt w q so sv len1 n z1 z2 w3 0 := ⟨hP, ⟨z1, hra2.after hW3, fun _ _ => rfl⟩, ⟨z2, hrb.after hW3, fun _ _ => rfl⟩, F1, F2, (hWa.nil hWb).nil hW3⟩
    have HR := Lib.hid (And.intro hok (And.intro hwf (And.intro r1 (And.intro r2 hra.len))))
    clear hsob hsvb F1 F2 hra hrb hra2 hP hWa hWb hW3 hok hwf r1 r2 w0 w1 w2 q3 d0
    go_loopw [87] (fun i wr => ∃ k : Nat, k ≤ len1 ∧ i = .int .i64 k ∧ NSt w q so sv len1 n z1 z2 wr k) (fun i _ => len1 - (intOf i).toNat)
    case atStart => exact ⟨0, Nat.zero_le _, rfl, hN0⟩
    case round =>
      clear hN0
      obtain ⟨k, hk, rfl, hN⟩ := hrel
      by_cases hlt : k < len1
      · rcases hso with e0 | ⟨g, rfl, g0, g1⟩
        · omega
        rcases hsv with e0 | ⟨v, rfl, v0, v1⟩
        · omega
        obtain ⟨c1, c2, f1, f2⟩ := hN.cells hlt
        obtain ⟨x, hx⟩ : ∃ x, x = z1.getD k 0 := ⟨_, rfl⟩
        obtain ⟨y, hy⟩ : ∃ y, y = z2.getD k 0 := ⟨_, rfl⟩
        have hxb : 0 ≤ x ∧ x < 8 := by rw [hx]; exact home_at HR.out.1 (by rw [HR.out.2.2.2.2]; exact hlt)
        obtain ⟨x0, x1⟩ := hxb
        have hyb : 0 ≤ y ∧ y < 4294967296 := by rw [hy]; exact HR.out.2.1 k
        obtain ⟨y0, y1⟩ := hyb
        rw [← hx] at c1
        rw [← hy] at c2
        have hne : ¬ v = g := by omega
        have hne' : ¬ g = v := by omega
        have hn1 := hN.step hlt (x + 1) ((y + 1) % 4294967296) (by omega) (by omega) (by omega)
        have HX := Lib.hid (And.intro hn1 (And.intro hx hy))
        clear hN hx hy hn1
        go_wp2
        go_region
        all_goals
          go_wp2
          go_roundw
          case rel => exact ⟨k + 1, by omega, by go_num, HX.out.1.after (Wrote.refl Nil _).drew fun _ => rfl⟩
          case measure => simp [intOf]; omega
      · have d0 := hN.port.cell0
        have cW := words_any hN.port.mem
        have HZ : Hid ((newS n z2).ws.length = len1) := Lib.hid HR.out.2.2.2.1.len
        have HN := Lib.hid (And.intro hN.port hN.wrote)
        have hat1 := HR.out.2.2.1.at
        have hat2 := HR.out.2.2.2.1.at
        clear hN hso hsv
        go_wp2_with (go_at_call 20; with_reducible refine cW.mono ?_; intro e w4 h4; unfold WordsPost at h4; rw [HZ.out] at h4; obtain ⟨tb, rfl, hrow, htb, hW4⟩ := h4)
        have hrow : w4.rowIs tb 32 len1 (fun j => .int .u32 (z2.getD j 0)) := hrow
        have HN2 := Lib.hid (And.intro (HN.out.1.after hW4) (And.intro hrow (HN.out.2.nil hW4)))
        clear hrow htb hW4 HN cW d0
        go_loopw [119] (fun i wr => ∃ k : Nat, k ≤ len1 ∧ i = .int .i64 k ∧ PortAt wr q z1 (newS n z2) ∧ wr.rowIs tb 32 len1 (fun j => .int .u32 (z2.getD j 0)) ∧ Wrote Nil w wr) (fun i _ => len1 - (intOf i).toNat)
        case atStart => exact ⟨0, Nat.zero_le _, rfl, HN2.out.1, HN2.out.2.1, HN2.out.2.2⟩
        case round =>
          clear HN2
          obtain ⟨k, hk, rfl, hP, hrow, hW⟩ := hrel
          by_cases hlt : k < len1
          · rcases hat1 with e0 | ⟨b1, o1, rfl, hc1⟩
            · omega
            rcases hat2 with e0 | ⟨b2, o2, rfl, hc2⟩
            · omega
            have f1 := hrow.cell hlt
            have f2 := hW.old (hc2 k hlt)
            have f3 := hW.old (hc1 k hlt)
            have f4 := hP.cell0
            obtain ⟨x, hx⟩ : ∃ x, x = z1.getD k 0 := ⟨_, rfl⟩
            obtain ⟨y, hy⟩ : ∃ y, y = z2.getD k 0 := ⟨_, rfl⟩
            have lq : ∀ u, Calls Try.prog 21 #[.pointer (some ⟨q.m, 0, none⟩), .int .i64 k] (wr.drewN u) fun e w' => e = .returned (.int .i64 x) ∧ w' = wr.drewN u := by
              intro u
              have c := home_any (hP.after ((Wrote.refl Nil wr).drewN u)).mem (k : Int)
              rw [load_at, ← hx] at c
              exact c.mono fun _ _ h => ⟨h.1, h.2.symm⟩
            rw [← hx] at f3
            rw [← hy] at f1 f2
            have f5 : (k : Int) < len1 := by omega
            have HX := Lib.hid (And.intro hP (And.intro hrow (And.intro hW (And.intro hx (And.intro hy (And.intro hc1 hc2))))))
            clear hP hrow hW hx hy hc1 hc2
            go_wp2
            go_big_quiet ((go_at_call 21; exact Calls.quiet_of_same (lq _)))
            go_wp2
            go_roundw
            case rel =>
              have d := (Wrote.refl Nil wr).drewN nq
              exact ⟨k + 1, by omega, by go_num, HX.out.1.after d, HX.out.2.1.of_block rfl, HX.out.2.2.1.nil d⟩
            case measure => simp [intOf]; omega
          · have c1 := paccesses_any hP 0
            have c2 := pwrites_any hP 0
            have c3 := pmisses_any hP 0
            rw [show (newS n z2).ac = List.replicate n 0 from rfl, cnt_new] at c1
            rw [show (newS n z2).wc = List.replicate n 0 from rfl, cnt_new] at c2
            rw [show (newS n z2).mc = List.replicate n 0 from rfl, cnt_new] at c3
            clear hat1 hat2
            go_wp2_with (first
              | (go_at_call 22; with_reducible refine c1.mono ?_; rintro e w' ⟨rfl, hw'⟩; subst w')
              | (go_at_call 23; with_reducible refine c2.mono ?_; rintro e w' ⟨rfl, hw'⟩; subst w')
              | (go_at_call 24; with_reducible refine c3.mono ?_; rintro e w' ⟨rfl, hw'⟩; subst w')
              | (go_at_call 7; refine (awake_any _).mono ?_; rintro e w6 ⟨rfl, hW6⟩))
            go_ret
            exact ⟨rfl, (hW.nil hW6).law⟩

/-! the row -/
set_option maxRecDepth 100000 in
theorem lifted (os : Os) (started : os.Started) (H : Type) (enc : TypeId × Value → H) :
    ReturnsInHanded {} Try.checked os 4 .any (Rows.portNewsSpec.pre6 enc Try.prog Try.f4 Rows.portNewsRow.domain false) (Rows.portNewsSpec.post enc Try.prog Try.f4 false true false false) := by
  refine returnsInHanded_of_change (C := Try.checked) own started (by kernel_rfl) Try.func4
    (ChangeSpec.witness6 (enc := enc) (C := Try.checked) false ⟨#[], #[.int .i64 0, .slice none 0 0, .slice none 0 0], []⟩ 8 (by kernel_rfl) (by kernel_rfl) (by kernel_rfl) (by kernel_rfl)) ?_
  intro W base args ds gs before hval0 hW hcnd _
  have hval : ∀ (j : Nat) t v, Try.f4.params[j]? = some t → args[j]? = some v → Value.okWide Try.prog W .any base t v := hval0
  have hW' := hW
  obtain ⟨p, q, hA0, hV, rfl, hfz, hnd⟩ := hW
  have hA : DataW.TrodAll enc Try.prog W 0 (fun _ => true) true Try.f4.params.toList args.toList ds p := hA0
  rw [Try.params4] at hA hval
  obtain ⟨v0, vs0, d0, ds0, p0, q0, hargs, rfl, rfl, h0, r0'⟩ := trodAll_cons hA
  obtain ⟨v1, vs1, d1, ds1, p1, q1, rfl, rfl, rfl, h1, r1'⟩ := trodAll_cons r0'
  obtain ⟨v2, vs2, d2, ds2, p2, q2, rfl, rfl, rfl, h2, r2'⟩ := trodAll_cons r1'
  obtain ⟨rfl, rfl, rfl⟩ := trodAll_nil r2'
  obtain rfl : args = #[v0, v1, v2] := by cases args; simp_all
  obtain ⟨rfl, rfl⟩ := trodVars_none hV
  obtain ⟨a0, rfl, rfl, rfl, w0⟩ := open_int Try.underlying3 (hval 0 3 v0 rfl rfl) h0
  have k1 := h1
  have lt1 : ∀ x ∈ p1, x.block < W.heap.size := by obtain ⟨m, hm⟩ := k1; exact DataW.trod_lt m _ _ _ hm
  obtain ⟨s1, len1, cap1, rfl⟩ := okWide_slice Try.underlying29 (hval 1 29 v1 rfl rfl)
  obtain ⟨l1, z1, r1, w1⟩ := open_slice_row Try.underlying29 Try.underlying3 (by kernel_rfl) h1
  have k2 := h2
  have lt2 : ∀ x ∈ p2, x.block < W.heap.size := by obtain ⟨m, hm⟩ := k2; exact DataW.trod_lt m _ _ _ hm
  obtain ⟨s2, len2, cap2, rfl⟩ := okWide_slice Try.underlying22 (hval 2 22 v2 rfl rfl)
  obtain ⟨l2, z2, r2, w2⟩ := open_slice_row Try.underlying22 Try.underlying32 (by kernel_rfl) h2
  clear hA0 hval0
  refine (walk a0 s1 len1 cap1 z1 s2 len2 cap2 z2 W w0 l1 r1 w1 l2 r2 w2).mono fun e W' ⟨he, bel⟩ => ?_
  subst he
  exact ⟨_, rfl, _, _, _, [], _, [], hW', trodAll_mk1 (shut_bool Try.underlying4 _), (trodAll_cons_mk (shut_int Try.underlying3 w0) (trodAll_cons_mk (Below.trod laidOut (by kernel_rfl) (of_decide_eq_true (by kernel_rfl)) k1 bel lt1) (trodAll_cons_mk (Below.trod laidOut (by kernel_rfl) (of_decide_eq_true (by kernel_rfl)) k2 bel lt2) trodAll_mk0))), rfl, bel.frame _, fun h => by cases h⟩

theorem over : Rows.portNewsRow.holds Try.pinned (OpenSpec.ofChange Rows.portNewsSpec) :=
  OpenClaim.holds_of_wide 4 Try.f4 rfl rfl rfl rfl rfl rfl rfl ⟨rfl, rfl, rfl, rfl, rfl⟩ rfl rfl rfl rfl rfl (by kernel_rfl) Try.func4 (by kernel_rfl)
    (of_decide_eq_true (by kernel_rfl)) (by unfold Func.isWrapper; first | (rw [if_pos (by decide +kernel)]; kernel_rfl) | (rw [if_neg (by decide +kernel)]; exact ⟨rfl, rfl⟩))
    (fun os started H enc _ => lifted os started H enc)

/-- the statement -/
theorem proved : Rows.PortNewsSaid := over
#print axioms proved
end Go.Proofs.Ytpcmgbcehleigaa.portNews
