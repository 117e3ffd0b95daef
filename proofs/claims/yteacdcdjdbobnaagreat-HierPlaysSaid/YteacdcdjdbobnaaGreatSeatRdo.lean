/- The contracts of the reference's Lock and Turn on seats. -/
import Derived.Test.YteacdcdjdbobnaaGreatSeatRef
import Derived.Deep.Cut
namespace Go.Proofs.YteacdcdjdbobnaaGreat
open Go.RowKit
set_option linter.unusedVariables false
set_option maxRecDepth 100000

/-! ### plain -/
theorem stL_set (s : SS) (t : Nat) (x d : Int) : stL (s.set t x d) = (stL s).set t x := by
  apply List.ext_getElem?
  intro i
  rw [List.getElem?_set]
  unfold stL
  rw [List.length_map, List.length_range]
  by_cases hi : i < s.n
  · rw [List.getElem?_map, List.getElem?_range (show i < (s.set t x d).n from hi), List.getElem?_map, List.getElem?_range hi]
    by_cases e : i = t
    · subst e; simp [SS.set, upd_same, hi]
    · rw [if_neg (fun h => e h.symm)]; simp [SS.set, upd_other _ _ e]
  · rw [List.getElem?_eq_none (by simp [SS.set]; omega), List.getElem?_eq_none (by simp; omega)]
    by_cases e : t = i
    · subst e; simp [hi]
    · rw [if_neg e]
theorem dlL_at (s : SS) {i : Nat} (hi : i < s.n) : (dlL s)[i]? = some (s.dlS i) := by unfold dlL; rw [List.getElem?_map, List.getElem?_range hi]; rfl
theorem stL_at (s : SS) {i : Nat} (hi : i < s.n) : (stL s)[i]? = some (s.st i) := by unfold stL; rw [List.getElem?_map, List.getElem?_range hi]; rfl
theorem dlL_len (s : SS) : (dlL s).length = s.n := by simp [dlL]
theorem stL_len (s : SS) : (stL s).length = s.n := by simp [stL]
theorem dlL_set (s : SS) (t : Nat) (x d y : Int) (h : (s.set t x d).dlS t = y) : dlL (s.set t x d) = (dlL s).set t y := by
  apply List.ext_getElem?
  intro i
  rw [List.getElem?_set, dlL_len]
  by_cases hi : i < s.n
  · rw [dlL_at _ (show i < (s.set t x d).n from hi)]
    by_cases e : t = i
    · subst e; rw [if_pos rfl, if_pos hi, h]
    · rw [if_neg e, dlL_at _ hi]
      simp [SS.dlS, SS.set, upd_other _ _ (fun h => e h.symm : i ≠ t)]
  · rw [List.getElem?_eq_none (by rw [dlL_len]; show s.n ≤ i; omega)]
    by_cases e : t = i
    · subst e; rw [if_pos rfl, if_neg hi]
    · rw [if_neg e, List.getElem?_eq_none (by rw [dlL_len]; omega)]
theorem set_same {l : List Int} {t : Nat} {x : Int} (h : l[t]? = some x) : l.set t x = l := by
  apply List.ext_getElem?
  intro i
  rw [List.getElem?_set]
  by_cases e : t = i
  · subst e
    have := (List.getElem?_eq_some_iff.1 h).1
    rw [if_pos rfl, if_pos this, h]
  · rw [if_neg e]

/-! ### a store into a row -/
namespace SrAt
variable {w : World} {r : Nat} {hv dv : Value} {n m : Nat} {xs ys : List Int} {timed probed : Bool}
/-- where the states lie -/
theorem stV (h : SrAt w r hv dv n m xs ys timed probed) (hn : 0 < n) : ∃ g cap, hv = .slice (some ⟨g, 0, none⟩) n cap ∧ ∀ (k : Nat) (x : Int), xs[k]? = some x → w.cell? ⟨g, k, none⟩ = some (.int .i64 x) ∧ w.frozen? ⟨g, k, none⟩ = false := by
  obtain ⟨so, cap, e, _⟩ := own_slice h.st
  have hs := h.st
  rw [e] at hs
  obtain ⟨g, hg, _⟩ := ownsRow_cell hs hn
  refine ⟨g, cap, by rw [e, hg], fun k x hx => ?_⟩
  have hl : xs.length = n := by have := h.st.1; simpa using this
  have hk : k < n := by rw [← hl]; exact (List.getElem?_eq_some_iff.1 hx).1
  obtain ⟨g', hg', hc, hf⟩ := ownsRow_cell hs hk
  rw [hg] at hg'
  obtain rfl : g = g' := by simpa using hg'
  exact ⟨by rw [hc, List.getElem?_map, hx]; rfl, hf⟩
theorem dlV (h : SrAt w r hv dv n m xs ys timed probed) (hn : 0 < m) : ∃ g cap, dv = .slice (some ⟨g, 0, none⟩) m cap ∧ ∀ (k : Nat) (x : Int), ys[k]? = some x → w.cell? ⟨g, k, none⟩ = some (.int .i64 x) ∧ w.frozen? ⟨g, k, none⟩ = false := by
  obtain ⟨so, cap, e, _⟩ := own_slice h.dl
  have hs := h.dl
  rw [e] at hs
  obtain ⟨g, hg, _⟩ := ownsRow_cell hs hn
  refine ⟨g, cap, by rw [e, hg], fun k x hx => ?_⟩
  have hl : ys.length = m := by have := h.dl.1; simpa using this
  have hk : k < m := by rw [← hl]; exact (List.getElem?_eq_some_iff.1 hx).1
  obtain ⟨g', hg', hc, hf⟩ := ownsRow_cell hs hk
  rw [hg] at hg'
  obtain rfl : g = g' := by simpa using hg'
  exact ⟨by rw [hc, List.getElem?_map, hx]; rfl, hf⟩
theorem setS {g cap : Nat} (h : SrAt w r (.slice (some ⟨g, 0, none⟩) n cap) dv n m xs ys timed probed) (k : Nat) (hk : k < n) (x : Int) :
    SrAt (w.setCell ⟨g, k, none⟩ (.int .i64 x)) r (.slice (some ⟨g, 0, none⟩) n cap) dv n m (xs.set k x) ys timed probed ∧ Wrote (SF r (.slice (some ⟨g, 0, none⟩) n cap) dv) w (w.setCell ⟨g, k, none⟩ (.int .i64 x)) := by
  have hW : Wrote (One g) w (w.setCell ⟨g, k, none⟩ (.int .i64 x)) := (Wrote.refl _ w).setCell _ _ fun _ => rfl
  have hg : (Value.slice (some ⟨g, 0, none⟩) n cap).ownBlock = some g := rfl
  refine ⟨⟨(hW.block r (blk_lt h.obj) fun e => h.low.1 (by rw [hg]; exact congrArg some (Eq.symm e))).trans h.obj, ?_, ownsRow_keep h.dl fun b hb => hW.block b (h.dl.lt b hb).2 fun e => h.apart b (by cases e; rfl) hb, h.apart, h.low⟩, hW.mono fun b _ e => .inr (.inl (by cases e; rfl))⟩
  refine ownsRow_set h.st k _ (by omega) ?_
  rw [← List.map_set]
theorem setD {g cap : Nat} (h : SrAt w r hv (.slice (some ⟨g, 0, none⟩) m cap) n m xs ys timed probed) (k : Nat) (hk : k < m) (x : Int) :
    SrAt (w.setCell ⟨g, k, none⟩ (.int .i64 x)) r hv (.slice (some ⟨g, 0, none⟩) m cap) n m xs (ys.set k x) timed probed ∧ Wrote (SF r hv (.slice (some ⟨g, 0, none⟩) m cap)) w (w.setCell ⟨g, k, none⟩ (.int .i64 x)) := by
  have hW : Wrote (One g) w (w.setCell ⟨g, k, none⟩ (.int .i64 x)) := (Wrote.refl _ w).setCell _ _ fun _ => rfl
  have hg : (Value.slice (some ⟨g, 0, none⟩) m cap).ownBlock = some g := rfl
  refine ⟨⟨(hW.block r (blk_lt h.obj) fun e => h.low.2 (by rw [hg]; exact congrArg some (Eq.symm e))).trans h.obj, ownsRow_keep h.st fun b hb => hW.block b (h.st.lt b hb).2 fun e => h.apart b hb (by cases e; rfl), ?_, h.apart, h.low⟩, hW.mono fun b _ e => .inr (.inr (by cases e; rfl))⟩
  refine ownsRow_set h.dl k _ (by omega) ?_
  rw [← List.map_set]
end SrAt

/-- behind a call of the reference -/
def RsPost (w : World) (r : Nat) (hv dv : Value) (s : SS) (x : Int) (e : Ending) (w' : World) : Prop := e = .returned (.int .i64 x) ∧ RsAt w' r hv dv s ∧ Wrote (SF r hv dv) w w'
theorem RsAt.after {w w' : World} {r : Nat} {hv dv : Value} {s : SS} (h : RsAt w r hv dv s) (k : Wrote Nil w w') : RsAt w' r hv dv s := SrAt.after h k
theorem RsAt.drew {w : World} {r : Nat} {hv dv : Value} {s : SS} (h : RsAt w r hv dv s) : RsAt w.drew r hv dv s := h.after ((Wrote.refl _ w).drew)

theorem RsPost.drew {w w' : World} {r : Nat} {hv dv : Value} {s : SS} {x : Int} {e : Ending} (h : RsPost w r hv dv s x e w') : RsPost w r hv dv s x e w'.drew := ⟨h.1, h.2.1.drew, h.2.2.drew⟩
/-- both rows turned, in either order -/
theorem rs_two {w : World} {r n g g2 cap cap2 : Nat} {xs ys : List Int} {timed probed : Bool} (h : SrAt w r (.slice (some ⟨g, 0, none⟩) n cap) (.slice (some ⟨g2, 0, none⟩) n cap2) n n xs ys timed probed) (k : Nat) (hk : k < n) (x y : Int) :
    (SrAt ((w.setCell ⟨g, k, none⟩ (.int .i64 x)).setCell ⟨g2, k, none⟩ (.int .i64 y)) r (.slice (some ⟨g, 0, none⟩) n cap) (.slice (some ⟨g2, 0, none⟩) n cap2) n n (xs.set k x) (ys.set k y) timed probed ∧ Wrote (SF r (.slice (some ⟨g, 0, none⟩) n cap) (.slice (some ⟨g2, 0, none⟩) n cap2)) w ((w.setCell ⟨g, k, none⟩ (.int .i64 x)).setCell ⟨g2, k, none⟩ (.int .i64 y))) ∧
    (SrAt ((w.setCell ⟨g2, k, none⟩ (.int .i64 y)).setCell ⟨g, k, none⟩ (.int .i64 x)) r (.slice (some ⟨g, 0, none⟩) n cap) (.slice (some ⟨g2, 0, none⟩) n cap2) n n (xs.set k x) (ys.set k y) timed probed ∧ Wrote (SF r (.slice (some ⟨g, 0, none⟩) n cap) (.slice (some ⟨g2, 0, none⟩) n cap2)) w ((w.setCell ⟨g2, k, none⟩ (.int .i64 y)).setCell ⟨g, k, none⟩ (.int .i64 x))) := by
  obtain ⟨a1, a2⟩ := h.setS k hk x
  obtain ⟨b1, b2⟩ := a1.setD k hk y
  obtain ⟨c1, c2⟩ := h.setD k hk y
  obtain ⟨d1, d2⟩ := c1.setS k hk x
  exact ⟨⟨b1, a2.trans b2 fun _ _ x => x⟩, ⟨d1, c2.trans d2 fun _ _ x => x⟩⟩

set_option maxHeartbeats 1000000 in
theorem rs_lock {w : World} {r : Nat} {hv dv : Value} {s : SS} (h : RsAt w r hv dv s) (n1 : 1 ≤ s.n) (n2 : s.n ≤ 64) (t d : Int) :
    Calls Tryz.prog 36 #[.pointer (some ⟨r, 0, none⟩), .int .i64 t, .int .i64 d] w (RsPost w r hv dv (s.lock t d) (lockE s t d)) := by
  obtain ⟨g, cap, rfl, hg⟩ := SrAt.stV h (by omega)
  obtain ⟨g2, cap2, rfl, hg2⟩ := SrAt.dlV h (by omega)
  have c0 := SrAt.cell0 h
  have c1 := SrAt.cell1 h
  have c2 := SrAt.cell2 h
  by_cases ht : 0 ≤ t ∧ t < s.n
  · obtain ⟨k, rfl⟩ := Int.eq_ofNat_of_zero_le ht.1
    have hk : k < s.n := by omega
    obtain ⟨e0, f0⟩ := hg k _ (stL_at s hk)
    obtain ⟨e1, f1⟩ := hg2 k _ (dlL_at s hk)
    have q1 : ¬ (k : Int) < 0 := by omega
    have q2 : ¬ (s.n : Int) ≤ (k : Int) := by omega
    by_cases hd : d = -1 ∨ (0 ≤ d ∧ s.timed = true)
    · by_cases hx : s.st k = 0
      · have eE : lockE s (k : Int) d = 0 := by unfold lockE; rw [if_pos ⟨ht, hd⟩, Int.toNat_natCast, if_pos hx]
        have eS : s.lock (k : Int) d = s.set k 1 d := by unfold SS.lock; rw [if_pos eE, Int.toNat_natCast]
        rw [eE, eS]
        rw [hx] at e0
        have HE : RsPost w r (.slice (some ⟨g, 0, none⟩) s.n cap) (.slice (some ⟨g2, 0, none⟩) s.n cap2) (s.set k 1 d) 0 (.returned (.int .i64 0)) ((w.setCell ⟨g, k, none⟩ (.int .i64 1)).setCell ⟨g2, k, none⟩ (.int .i64 d)) ∧ RsPost w r (.slice (some ⟨g, 0, none⟩) s.n cap) (.slice (some ⟨g2, 0, none⟩) s.n cap2) (s.set k 1 d) 0 (.returned (.int .i64 0)) ((w.setCell ⟨g2, k, none⟩ (.int .i64 d)).setCell ⟨g, k, none⟩ (.int .i64 1)) := by
          obtain ⟨⟨a1, a2⟩, b1, b2⟩ := rs_two h k hk 1 d
          rw [← stL_set s k 1 d, ← dlL_set s k 1 d d (by simp [SS.dlS, SS.set, upd_same])] at a1 b1
          exact ⟨⟨rfl, a1, a2⟩, ⟨rfl, b1, b2⟩⟩
        have p1 : ¬ g = g2 := fun e => h.apart g rfl (by rw [e]; rfl)
        have p2 : ¬ g2 = g := fun e => p1 e.symm
        have HE' := Lib.hid HE
        have hn := n2
        generalize s.n = n at *
        generalize s.timed = tm at *
        clear h HE eE eS hx hg hg2 ht
        rcases hd with rfl | ⟨hd, rfl⟩
        all_goals
          go_enter Tryz.func36, Tryz.ntmps36
          go_wp2
          go_region
          all_goals
            go_wp2
            go_ret
            first
              | exact HE'.out.1.drew
              | exact HE'.out.2.drew
      · have eE : lockE s (k : Int) d = 2 := by unfold lockE; rw [if_pos ⟨ht, hd⟩, Int.toNat_natCast, if_neg hx]
        have eS : s.lock (k : Int) d = s := by unfold SS.lock; rw [if_neg (by rw [eE]; decide)]
        rw [eE, eS]
        have HE := Lib.hid h
        have hn := n2
        generalize s.st k = x at *
        generalize s.n = n at *
        generalize s.timed = tm at *
        clear h eE eS hg hg2 ht
        rcases hd with rfl | ⟨hd, rfl⟩
        all_goals
          go_enter Tryz.func36, Tryz.ntmps36
          go_wp2
          go_ret
          exact ⟨rfl, HE.out, Wrote.refl _ _⟩
    · have eE : lockE s (k : Int) d = 1 := by unfold lockE; rw [if_neg (fun x => hd x.2)]
      have eS : s.lock (k : Int) d = s := by unfold SS.lock; rw [if_neg (by rw [eE]; decide)]
      rw [eE, eS]
      have HE := Lib.hid h
      have hd2 : d < -1 ∨ (¬ d < -1 ∧ -1 < d ∧ s.timed = false) := by
        by_cases h1 : d < -1
        · exact .inl h1
        · exact .inr ⟨h1, by omega, by cases h2 : s.timed; rfl; exact absurd (Or.inr ⟨by omega, h2⟩) hd⟩
      have hn := n2
      generalize s.n = n at *
      generalize s.timed = tm at *
      clear h eE eS hg hg2 ht hd
      rcases hd2 with hd | ⟨hd, hd2, rfl⟩
      all_goals
        go_enter Tryz.func36, Tryz.ntmps36
        go_wp2
        go_ret
        exact ⟨rfl, HE.out, Wrote.refl _ _⟩
  · have eE : lockE s t d = 1 := by unfold lockE; rw [if_neg (fun x => ht x.1)]
    have eS : s.lock t d = s := by unfold SS.lock; rw [if_neg (by rw [eE]; decide)]
    rw [eE, eS]
    have HE := Lib.hid h
    have hn := n2
    have ht2 : t < 0 ∨ (¬ t < 0 ∧ (s.n : Int) ≤ t) := by omega
    generalize s.n = n at *
    clear h eE eS hg hg2 ht
    rcases ht2 with ht | ⟨ht, ht2⟩
    all_goals
      go_enter Tryz.func36, Tryz.ntmps36
      go_wp2
      go_ret
      exact ⟨rfl, HE.out, Wrote.refl _ _⟩

/-- what a turn of the reference comes to -/
def rturnE (s : SS) (t x : Int) : Int := if x = 4 ∧ s.probed = false then 1 else turnE s t
def SS.rturn (s : SS) (t x : Int) : SS := if x = 4 ∧ s.probed = false then s else s.turn t x

set_option maxHeartbeats 1000000 in
theorem rs_turn {w : World} {r : Nat} {hv dv : Value} {s : SS} (h : RsAt w r hv dv s) (n1 : 1 ≤ s.n) (n2 : s.n ≤ 64) (t x : Int) (hx : x ≠ 1) :
    Calls Tryz.prog 37 #[.pointer (some ⟨r, 0, none⟩), .int .i64 t, .int .i64 x] w (RsPost w r hv dv (s.rturn t x) (rturnE s t x)) := by
  obtain ⟨g, cap, rfl, hg⟩ := SrAt.stV h (by omega)
  have c0 := SrAt.cell0 h
  have c3 := SrAt.cell3 h
  by_cases ht : 0 ≤ t ∧ t < s.n
  · obtain ⟨k, rfl⟩ := Int.eq_ofNat_of_zero_le ht.1
    have hk : k < s.n := by omega
    obtain ⟨e0, f0⟩ := hg k _ (stL_at s hk)
    have q1 : ¬ (k : Int) < 0 := by omega
    have q2 : ¬ (s.n : Int) ≤ (k : Int) := by omega
    by_cases hp : x = 4 ∧ s.probed = false
    · have eE : rturnE s (k : Int) x = 1 := if_pos hp
      have eS : s.rturn (k : Int) x = s := if_pos hp
      rw [eE, eS]
      have HE := Lib.hid h
      have hn := n2
      generalize s.n = n at *
      generalize s.probed = pr at *
      obtain ⟨rfl, rfl⟩ := hp
      clear h eE eS hg ht
      go_enter Tryz.func37, Tryz.ntmps37
      go_wp2
      go_ret
      exact ⟨rfl, HE.out, Wrote.refl _ _⟩
    · have eE0 : rturnE s (k : Int) x = turnE s (k : Int) := if_neg hp
      have eS0 : s.rturn (k : Int) x = s.turn (k : Int) x := if_neg hp
      have eE1 : turnE s (k : Int) = if s.st k = 0 then 3 else if s.st k = 2 then 0 else 2 := by unfold turnE; rw [if_pos ht, Int.toNat_natCast]
      have eS1 : s.turn (k : Int) x = if turnE s (k : Int) = 0 then s.set k x (s.dl k) else s := by unfold SS.turn; rw [Int.toNat_natCast]
      rw [eE0, eS0, eS1]
      have hp2 : (x == 4) = false ∨ ((x == 4) = true ∧ s.probed = true) := by
        by_cases h1 : x = 4
        · exact .inr ⟨by simp [h1], by cases h2 : s.probed; exact absurd ⟨h1, h2⟩ hp; rfl⟩
        · exact .inl (beq_false_of_ne h1)
      by_cases h0 : s.st k = 0
      · rw [if_pos h0] at eE1
        rw [eE1, if_neg (by decide)]
        rw [h0] at e0
        have HE := Lib.hid h
        have hn := n2
        generalize s.n = n at *
        generalize s.probed = pr at *
        clear h eE0 eS0 eE1 eS1 hg ht h0 hp hx
        rcases hp2 with p1 | ⟨p1, rfl⟩
        all_goals
          go_enter Tryz.func37, Tryz.ntmps37
          go_wp2
          go_ret
          exact ⟨rfl, HE.out, Wrote.refl _ _⟩
      · rw [if_neg h0] at eE1
        by_cases h2 : s.st k = 2
        · rw [if_pos h2] at eE1
          rw [eE1, if_pos rfl]
          have hE : RsPost w r (.slice (some ⟨g, 0, none⟩) s.n cap) dv (s.set k x (s.dl k)) 0 (.returned (.int .i64 0)) (w.setCell ⟨g, k, none⟩ (.int .i64 x)) := by
            obtain ⟨a1, a2⟩ := SrAt.setS h k hk x
            rw [← stL_set s k x (s.dl k)] at a1
            have e2 : dlL (s.set k x (s.dl k)) = dlL s := by
              rw [dlL_set s k x (s.dl k) (-1) (by simp [SS.dlS, SS.set, upd_same, hx])]
              exact set_same (by rw [dlL_at s hk]; simp [SS.dlS, h2])
            rw [← e2] at a1
            exact ⟨rfl, a1, a2⟩
          rw [h2] at e0
          have HE := Lib.hid hE
          have hn := n2
          generalize s.n = n at *
          generalize s.probed = pr at *
          clear h eE0 eS0 eE1 eS1 hg ht h0 hp hx hE h2
          rcases hp2 with p1 | ⟨p1, rfl⟩
          all_goals
            go_enter Tryz.func37, Tryz.ntmps37
            go_wp2
            go_ret
            exact HE.out
        · rw [if_neg h2] at eE1
          rw [eE1, if_neg (by decide)]
          have HE := Lib.hid h
          have hn := n2
          generalize s.st k = y at *
          generalize s.n = n at *
          generalize s.probed = pr at *
          clear h eE0 eS0 eE1 eS1 hg ht hp hx
          rcases hp2 with p1 | ⟨p1, rfl⟩
          all_goals
            go_enter Tryz.func37, Tryz.ntmps37
            go_wp2
            go_ret
            exact ⟨rfl, HE.out, Wrote.refl _ _⟩
  · have eE : rturnE s t x = 1 := by unfold rturnE turnE; rw [if_neg ht]; split <;> rfl
    have eS : s.rturn t x = s := by unfold SS.rturn SS.turn turnE; rw [if_neg ht]; split; rfl; exact if_neg (by decide)
    rw [eE, eS]
    have HE := Lib.hid h
    have hn := n2
    have ht2 : t < 0 ∨ (¬ t < 0 ∧ (s.n : Int) ≤ t) := by omega
    generalize s.n = n at *
    clear h eE eS hg ht
    rcases ht2 with ht | ⟨ht, ht2⟩
    all_goals
      go_enter Tryz.func37, Tryz.ntmps37
      go_wp2
      go_ret
      exact ⟨rfl, HE.out, Wrote.refl _ _⟩
end Go.Proofs.YteacdcdjdbobnaaGreat
