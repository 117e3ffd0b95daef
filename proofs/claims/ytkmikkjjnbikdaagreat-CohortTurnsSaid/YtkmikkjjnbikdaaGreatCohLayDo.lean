/- The walk of a lock of locks' lay. -/
import Derived.Test.YtkmikkjjnbikdaaGreatCohLay
import Derived.Deep.Cut
import Derived.Deep.CutRange
namespace Go.Proofs.YtkmikkjjnbikdaaGreat
open Go.RowKit Go.BigFrame
set_option linter.unusedVariables false
set_option maxRecDepth 100000
set_option maxHeartbeats 8000000

/-- the contexts once they are placed -/
def cxF (hN : Nat → Nat) (n : Nat) : List Value := cxs n hN (fun t => cntN hN (hN t) t) (fun _ => .func (.func 80) #[] #[]) (fun _ => 0)
def cx0 (n : Nat) : List Value := cxs n (fun _ => 0) (fun _ => 0) (fun _ => .nilFunc) (fun _ => 0)
/-- the nodes' locks that there are, once m nodes have theirs -/
def lvK (I : Nat → Ip) (cnt : Nat → Nat) (m c : Nat) : Value := if c < m ∧ 0 < cnt c then (I c).val else .nilIface
theorem lvK_skip (I : Nat → Ip) (cnt : Nat → Nat) (m : Nat) (h : ¬ 0 < cnt m) : lvK I cnt (m + 1) = lvK I cnt m := by
  funext c
  unfold lvK
  by_cases q : c < m ∧ 0 < cnt c
  · rw [if_pos q, if_pos ⟨by omega, q.2⟩]
  · rw [if_neg q, if_neg fun e => q ⟨by have := e.1; by_cases r : c = m; (subst r; exact absurd e.2 h); omega, e.2⟩]
theorem lvK_add (I : Nat → Ip) (J : Ip) (cnt : Nat → Nat) (m : Nat) (h : 0 < cnt m) : lvK (upd I m J) cnt (m + 1) = upd (lvK I cnt m) m J.val := by
  funext c
  by_cases e : c = m
  · subst e
    rw [upd_same]
    unfold lvK
    rw [if_pos ⟨by omega, h⟩, upd_same]
  · rw [upd_other _ _ e]
    unfold lvK
    rw [upd_other _ _ e]
    by_cases q : c < m ∧ 0 < cnt c
    · rw [if_pos q, if_pos ⟨by omega, q.2⟩]
    · rw [if_neg q, if_neg fun r => q ⟨by omega, r.2⟩]
/-- the words ahead of the nodes' locks: the passes, the lock of all -/
def gH (G : Int) : List Int := nodesI 8 ++ inH G (nodesI 8)
structure LdSt (w : World) (q : Pl) (M : Mk) (t : Int) (hs vs : List Int) (hN : Nat → Nat) (G K : Int) (vq : Nat → Value) (gi : Ip) (m : Nat) (q' : Pl) (I : Nat → Ip) (W : World) : Prop where
  lay : LaySt w q M W q' t (hs ++ gH G ++ lH K (fun c => cntN hN c M.n) m) (vs ++ List.replicate (8 + inZ G 8 + lZ K (fun c => cntN hN c M.n) m) 0) hs.length gi.val (lvK I (fun c => cntN hN c M.n) m) (cxF hN M.n)
  glo : ∀ ps, InAt W gi (.pointer none) (newInn G 8 ps)
  ga : gi.a = hs.length + 8 ∧ w.heap.size ≤ gi.lo
  loc : ∀ c, c < m → 0 < cntN hN c M.n → (∀ ps, InAt W (I c) (.pointer none) (newInn K (cntN hN c M.n) ps)) ∧ (I c).a = hs.length + 8 + inZ G 8 + lZ K (fun c => cntN hN c M.n) c ∧ gi.hi ≤ (I c).lo
  ord : ∀ c d, c < d → d < m → 0 < cntN hN c M.n → 0 < cntN hN d M.n → (I c).hi ≤ (I d).lo
  rows : ∀ c, c < 8 → OwnR w W q' (vq c) (rowK hN M.n c)
theorem gH_len (G : Int) : (gH G).length = 8 + inZ G 8 := by
  unfold gH
  rw [List.length_append, inH_len (n := 8) rfl]
  rfl
namespace LdSt
variable {w W W2 : World} {q q' q2 : Pl} {M : Mk} {t : Int} {hs vs : List Int} {hN : Nat → Nat} {G K : Int} {vq : Nat → Value} {gi : Ip} {m : Nat} {I : Nat → Ip}
theorem after (h : LdSt w q M t hs vs hN G K vq gi m q' I W) (k : Wrote Nil W W2) : LdSt w q M t hs vs hN G K vq gi m q' I W2 :=
  ⟨h.lay.after k, fun ps => (h.glo ps).after k, h.ga, fun c hc hp => ⟨fun ps => ((h.loc c hc hp).1 ps).after k, (h.loc c hc hp).2⟩, h.ord, fun c hc => (h.rows c hc).beside k fun _ _ => id⟩
theorem skip (h : LdSt w q M t hs vs hN G K vq gi m q' I W) (hm : ¬ 0 < cntN hN m M.n) : LdSt w q M t hs vs hN G K vq gi (m + 1) q' I W := by
  have e1 : lH K (fun c => cntN hN c M.n) (m + 1) = lH K (fun c => cntN hN c M.n) m := by
    show _ ++ (if 0 < cntN hN m M.n then _ else []) = _
    rw [if_neg hm, List.append_nil]
  have e2 : lZ K (fun c => cntN hN c M.n) (m + 1) = lZ K (fun c => cntN hN c M.n) m := by
    show _ + (if 0 < cntN hN m M.n then _ else 0) = _
    rw [if_neg hm, Nat.add_zero]
  refine ⟨by rw [e1, e2, lvK_skip I (fun c => cntN hN c M.n) m hm]; exact h.lay, h.glo, h.ga, fun c hc hp => ?_, fun c d hcd hd hp hq => ?_, h.rows⟩
  · have : c ≠ m := fun e => by subst e; exact hm hp
    exact h.loc c (by omega) hp
  · have : d ≠ m := fun e => by subst e; exact hm hq
    exact h.ord c d hcd (by omega) hp hq
theorem add (h : LdSt w q M t hs vs hN G K vq gi m q' I W) (hm : m < 8) (hc : 0 < cntN hN m M.n) {e : Ending} (hp : InnerPost W q' t (hs ++ gH G ++ lH K (fun c => cntN hN c M.n) m) (vs ++ List.replicate (8 + inZ G 8 + lZ K (fun c => cntN hN c M.n) m) 0) K (cntN hN m M.n) (List.replicate (cntN hN m M.n) (m : Int)) e W2) :
    ∃ (J : Ip) (q2 : Pl), e = .returned (.iface J.ty (.pointer (some ⟨J.lb, 0, none⟩))) ∧ (W2.cell? ⟨M.lb, 5 + m, none⟩ = some (lvK I (fun c => cntN hN c M.n) m m) ∧ W2.frozen? ⟨M.lb, 5 + m, none⟩ = false) ∧ LdSt w q M t hs vs hN G K vq gi (m + 1) q2 (upd I m J) (W2.setCell ⟨M.lb, 5 + m, none⟩ (.iface J.ty (.pointer (some ⟨J.lb, 0, none⟩)))) := by
  obtain ⟨J, q2, rfl, i1, i2, i3, i4, i5, i6, i7⟩ := hp
  have hl2 := h.lay.grew i5 i4 i6 i7
  have hl3 := hl2.set0 (5 + m) J.val (objC_setL M.p M.bud hs.length gi.val J.val (lvK I (fun c => cntN hN c M.n) m) M.tb M.n hm)
  have k : Wrote (One M.lb) W2 (W2.setCell ⟨M.lb, 5 + m, none⟩ J.val) := (Wrote.refl _ W2).setCell _ _ fun _ => rfl
  have hlt := h.lay.lt.1
  have hg := h.ga.2
  have hgi := (h.glo ⟨[], [], [], [], []⟩).rng.1
  have gle := (h.glo ⟨[], [], [], [], []⟩).le
  refine ⟨J, q2, rfl, ⟨(hl2.cell _).trans (objC_at _ _ _ _ _ _ _ hm), hl2.frz _⟩, ?_⟩
  have e1 : lH K (fun c => cntN hN c M.n) (m + 1) = lH K (fun c => cntN hN c M.n) m ++ inH K (List.replicate (cntN hN m M.n) (m : Int)) := by
    show _ ++ (if 0 < cntN hN m M.n then _ else []) = _
    rw [if_pos hc]
  have e2 : lZ K (fun c => cntN hN c M.n) (m + 1) = lZ K (fun c => cntN hN c M.n) m + inZ K (cntN hN m M.n) := by
    show _ + (if 0 < cntN hN m M.n then _ else 0) = _
    rw [if_pos hc]
  have sz := i6.size
  refine ⟨?_, fun ps => ((h.glo ps).plan h.lay.plan i6).wrote k fun b b1 _ e => by unfold One at e; omega, h.ga, fun c hcm hp => ?_, fun c d hcd hd hp hq => ?_, fun c hc8 => ?_⟩
  · rw [e1, e2, lvK_add I J (fun c => cntN hN c M.n) m hc, ← List.append_assoc, ← Nat.add_assoc, ← List.replicate_append_replicate, ← List.append_assoc]
    exact hl3
  · by_cases q : c = m
    · subst q
      rw [upd_same]
      refine ⟨fun ps => (i1 ps).wrote k fun b b1 _ e => by unfold One at e; omega, ?_, by omega⟩
      rw [i2, List.length_append, List.length_append, gH_len, lH_len]
      omega
    · rw [upd_other _ _ q]
      obtain ⟨a, b, d⟩ := h.loc c (by omega) hp
      exact ⟨fun ps => ((a ps).plan h.lay.plan i6).wrote k fun b b1 _ e => by unfold One at e; omega, b, d⟩
  · by_cases q : d = m
    · subst q
      rw [upd_same, upd_other _ _ (by omega)]
      have := ((h.loc c (by omega) hp).1 ⟨[], [], [], [], []⟩).le
      omega
    · rw [upd_other _ _ q, upd_other _ _ (by omega)]
      exact h.ord c d hcd (by omega) hp hq
  · exact ((h.rows c hc8).grew i6 i7).beside k fun j hj e => by have := ((h.rows c hc8).off j hj).1; unfold One at e; omega
end LdSt
theorem ixr_0 (v0 v1 v2 v3 v4 v5 v6 v7 : Value) (w : World) : (Instr.index 56 (.agg #[v0, v1, v2, v3, v4, v5, v6, v7]) (.int .i64 ((0 : Nat) : Int))).run Tryz.prog w = .ok v0 w := by kernel_rfl
theorem ixr_1 (v0 v1 v2 v3 v4 v5 v6 v7 : Value) (w : World) : (Instr.index 56 (.agg #[v0, v1, v2, v3, v4, v5, v6, v7]) (.int .i64 ((1 : Nat) : Int))).run Tryz.prog w = .ok v1 w := by kernel_rfl
theorem ixr_2 (v0 v1 v2 v3 v4 v5 v6 v7 : Value) (w : World) : (Instr.index 56 (.agg #[v0, v1, v2, v3, v4, v5, v6, v7]) (.int .i64 ((2 : Nat) : Int))).run Tryz.prog w = .ok v2 w := by kernel_rfl
theorem ixr_3 (v0 v1 v2 v3 v4 v5 v6 v7 : Value) (w : World) : (Instr.index 56 (.agg #[v0, v1, v2, v3, v4, v5, v6, v7]) (.int .i64 ((3 : Nat) : Int))).run Tryz.prog w = .ok v3 w := by kernel_rfl
theorem ixr_4 (v0 v1 v2 v3 v4 v5 v6 v7 : Value) (w : World) : (Instr.index 56 (.agg #[v0, v1, v2, v3, v4, v5, v6, v7]) (.int .i64 ((4 : Nat) : Int))).run Tryz.prog w = .ok v4 w := by kernel_rfl
theorem ixr_5 (v0 v1 v2 v3 v4 v5 v6 v7 : Value) (w : World) : (Instr.index 56 (.agg #[v0, v1, v2, v3, v4, v5, v6, v7]) (.int .i64 ((5 : Nat) : Int))).run Tryz.prog w = .ok v5 w := by kernel_rfl
theorem ixr_6 (v0 v1 v2 v3 v4 v5 v6 v7 : Value) (w : World) : (Instr.index 56 (.agg #[v0, v1, v2, v3, v4, v5, v6, v7]) (.int .i64 ((6 : Nat) : Int))).run Tryz.prog w = .ok v6 w := by kernel_rfl
theorem ixr_7 (v0 v1 v2 v3 v4 v5 v6 v7 : Value) (w : World) : (Instr.index 56 (.agg #[v0, v1, v2, v3, v4, v5, v6, v7]) (.int .i64 ((7 : Nat) : Int))).run Tryz.prog w = .ok v7 w := by kernel_rfl
theorem ixr (vq : Nat → Value) {m : Nat} (hm : m < 8) (w : World) : (Instr.index 56 (.agg (arr8 vq)) (.int .i64 (m : Nat))).run Tryz.prog w = .ok (vq m) w := by
  rw [arr8_lit]
  have : m = 0 ∨ m = 1 ∨ m = 2 ∨ m = 3 ∨ m = 4 ∨ m = 5 ∨ m = 6 ∨ m = 7 := by omega
  rcases this with rfl | rfl | rfl | rfl | rfl | rfl | rfl | rfl
  · exact ixr_0 _ _ _ _ _ _ _ _ w
  · exact ixr_1 _ _ _ _ _ _ _ _ w
  · exact ixr_2 _ _ _ _ _ _ _ _ w
  · exact ixr_3 _ _ _ _ _ _ _ _ w
  · exact ixr_4 _ _ _ _ _ _ _ _ w
  · exact ixr_5 _ _ _ _ _ _ _ _ w
  · exact ixr_6 _ _ _ _ _ _ _ _ w
  · exact ixr_7 _ _ _ _ _ _ _ _ w
/-- behind lay -/
def LayPost (w : World) (q : Pl) (M : Mk) (t : Int) (hs vs : List Int) (hN : Nat → Nat) (G K : Int) (e : Ending) (W : World) : Prop :=
  e = .returned (.tuple #[]) ∧ ∃ vq gi q' I, LdSt w q M t hs vs hN G K vq gi 8 q' I W
theorem ok_nodes : homesOK (nodesI 8) = true := by decide
theorem ok_rep (c m : Nat) (h : m < 8) : homesOK (List.replicate c (m : Int)) = true := by
  unfold homesOK
  rw [List.all_eq_true]
  intro x hx
  rw [List.eq_of_mem_replicate hx]
  unfold okH
  exact decide_eq_true (by omega)
theorem lay_row {w W : World} {q q' : Pl} {M : Mk} {t : Int} {hs vs : List Int} {a1 : Int} {g : Value} {lv : Nat → Value} {cx : List Value} {bh o n : Nat} {zs : List Int} (h : LaySt w q M W q' t hs vs a1 g lv cx) (hR : RowAt .i64 w (some ⟨bh, o, none⟩) n zs) (hb : ¬ LyF q M bh) : RowAt .i64 W (some ⟨bh, o, none⟩) n zs :=
  ⟨hR.len, hR.empty, fun b hb2 j hj => h.wr.cell (hR.cell b hb2 j hj) (by cases hb2; rw [Addr.add_lit]; exact hb)⟩
/-- ahead of places -/
structure LdPre (w : World) (q : Pl) (M : Mk) (t : Int) (hs vs : List Int) (G : Int) (gi : Ip) (q' : Pl) (W : World) : Prop where
  lay : LaySt w q M W q' t (hs ++ nodesI 8 ++ inH G (nodesI 8)) (vs ++ List.replicate 8 0 ++ List.replicate (inZ G 8) 0) hs.length gi.val (fun _ => .nilIface) (cx0 M.n)
  glo : ∀ ps, InAt W gi (.pointer none) (newInn G 8 ps)
  ga : gi.a = hs.length + 8 ∧ w.heap.size ≤ gi.lo
theorem ld_pre {w W2 Wa : World} {q q2 : Pl} {M : Mk} {t : Int} {hs vs : List Int} {G : Int} {gi : Ip} {v : Value}
    (h : LaySt w q M (W2.setCell ⟨M.lb, 4, none⟩ v) q2 t (hs ++ nodesI 8 ++ inH G (nodesI 8)) (vs ++ List.replicate 8 0 ++ List.replicate (inZ G 8) 0) hs.length gi.val (fun _ => .nilIface) (cx0 M.n))
    (i1 : ∀ ps, InAt W2 gi (.pointer none) (newInn G 8 ps)) (i2 : gi.a = (hs ++ nodesI 8).length) (i3 : w.heap.size ≤ gi.lo) : LdPre w q M t hs vs G gi q2 (W2.setCell ⟨M.lb, 4, none⟩ v) := by
  have k : Wrote (One M.lb) W2 (W2.setCell ⟨M.lb, 4, none⟩ v) := (Wrote.refl _ W2).setCell _ _ fun _ => rfl
  have l := h.lt.1
  refine ⟨h, fun ps => (i1 ps).wrote k fun b b1 _ e => by unfold One at e; omega, ?_, i3⟩
  rw [i2, List.length_append]
  rfl
theorem ld_start {w W W2 : World} {q q2 : Pl} {M : Mk} {t : Int} {hs vs : List Int} {G K : Int} {gi : Ip} {hN : Nat → Nat} {vq : Nat → Value} (h : LdPre w q M t hs vs G gi q2 W)
    (g1 : W2.heap[M.tb]? = some (.cells (cxs M.n hN (fun t => cntN hN (hN t) t) (fun _ => .func (.func 80) #[] #[]) (fun _ => 0)).toArray 144 (0, 0)))
    (g2 : ∀ c, c < 8 → RowQ W2 (vq c) ((rowK hN M.n c).map natV) ∧ ∀ j, (vq c).ownBlock = some j → W.heap.size ≤ j) (g3 : Wrote (One M.tb) W W2) :
    LdSt w q M t hs vs hN G K vq gi 0 q2 (fun _ => gi) W2 := by
  have l := h.lay.lt.2.2.2
  have hsz := h.lay.wr.size
  refine ⟨?_, fun ps => (h.glo ps).wrote g3 fun b b1 _ e => by unfold One at e; have := h.ga.2; omega, h.ga, fun c hc => by omega, fun c d _ hd => by omega, fun c hc => ⟨(g2 c hc).1, fun j hj => ?_⟩⟩
  · have e1 : hs ++ gH G ++ lH K (fun c => cntN hN c M.n) 0 = hs ++ nodesI 8 ++ inH G (nodesI 8) := by unfold gH lH; rw [List.append_nil, List.append_assoc]
    have e2 : vs ++ List.replicate (8 + inZ G 8 + lZ K (fun c => cntN hN c M.n) 0) 0 = vs ++ List.replicate 8 0 ++ List.replicate (inZ G 8) 0 := by unfold lZ; rw [Nat.add_zero, ← List.replicate_append_replicate, List.append_assoc]
    have e3 : lvK (fun _ => gi) (fun c => cntN hN c M.n) 0 = fun _ => .nilIface := by funext c; unfold lvK; exact if_neg fun e => by omega
    rw [e1, e2, e3]
    exact h.lay.ctxs g1 g3
  · have := (g2 c hc).2 j hj
    exact ⟨by omega, fun e => by have := h.lay.plan.lt e; omega⟩
theorem fl_lay {w : World} {q : Pl} {M : Mk} {t : Int} {hs vs : List Int} {hN : Nat → Nat} {G K : Int} {bh o cap : Nat} {zs : List Int} (hL0 : LaySt w q M w q t hs vs 0 .nilIface (fun _ => .nilIface) (cx0 M.n)) (hG : G = 1 ∨ G = 3 ∨ G = 4) (hK : K = 1 ∨ K = 3 ∨ K = 4)
    (hR : RowAt .i64 w (some ⟨bh, o, none⟩) M.n zs) (hH : ∀ t, t < M.n → zs.getD t 0 = (hN t : Nat) ∧ hN t < 8) (n1 : 1 ≤ M.n) (n64 : M.n ≤ 64) (hb : ¬ LyF q M bh) (hbl : bh < w.heap.size) (hLn : hs.length ≤ 700000) :
    Calls Tryz.prog 47 #[.pointer (some ⟨M.lb, 0, none⟩), .pointer (some ⟨q.p, 0, none⟩), .slice (some ⟨bh, o, none⟩) M.n cap, .int .i64 G, .int .i64 K] w (LayPost w q M t hs vs hN G K) := by
  have cLen := pllen_any hL0.plan
  have z3 := hL0.frz 3
  have c3 : w.cell? ⟨M.lb, 3, none⟩ = some (.int .i64 0) := hL0.cell 3
  have hA := hL0.set0 3 (.int .i64 (hs.length : Nat)) (objC_setA M.p M.bud 0 (hs.length : Nat) .nilIface (fun _ => .nilIface) M.tb M.n)
  have HA := Lib.hid hA
  have HE := Lib.hid (And.intro hR (And.intro hH (And.intro hb hbl)))
  clear hL0 hA hR hH hb
  go_enter Tryz.func47, Tryz.ntmps47
  go_wp2_with (go_at_call 26; (with_reducible refine cLen.mono ?_); rintro e w' ⟨rfl, hw'⟩; subst w')
  go_loopw [10, 11, 19] (fun nv _ i wr => ∃ (k : Nat) (q' : Pl), k ≤ 8 ∧ i = .int .i64 k ∧ LaySt w q M wr q' t (hs ++ nodesI k) (vs ++ List.replicate k 0) hs.length .nilIface (fun _ => .nilIface) (cx0 M.n) ∧ OwnR w wr q' nv (List.range k)) (fun _ _ i _ => 8 - (intOf i).toNat)
  case atStart => exact ⟨0, q, by decide, rfl, by simpa [nodesI] using HA.out, ⟨RowQ.nil _, fun j hj => by cases hj⟩⟩
  case round =>
    clear HA
    obtain ⟨k, q', hk, rfl, hl, hO⟩ := hrel
    by_cases hlt : k < 8
    · have cW := plword_any hl.plan (k : Int) 0 (by rw [List.length_append]; unfold nodesI; rw [List.length_map, List.length_range]; omega)
      rw [hl.pq] at cW
      obtain ⟨sa, cp, hv⟩ := hO.row.form
      rw [List.length_map, List.length_range] at hv
      subst hv
      have HL := Lib.hid (And.intro hl hO)
      clear hl hO
      go_wp2_with (first
        | (go_at_call 44; (with_reducible refine cW.mono ?_); intro e w2 hq; unfold PlanPost at hq; obtain ⟨rfl, q2, g1, g2, g3, g4⟩ := hq; have hl2 := HL.out.1.grew g2 g1 g3 g4; have hO2 := HL.out.2.grew g3 g4; have HM := Lib.hid (And.intro hl2 hO2); clear g1 g2 g3 g4 hl2 hO2)
        | (at_builtin; refine wpList_push rfl _ _ rfl rfl (HM.out.2.beside ((Wrote.refl Nil w2).alloc _) fun _ _ => id).row ⟨w2.heap.size, 0, none⟩ (natV k) rfl (by rw [blk_cell (Go.Deep.blk_alloc_new _ _)]; rfl) (by simp [natV, Value.oneCell']) (by rw [List.length_map, List.length_range]; omega) ?_; intro v' w6 hp; have HP := Lib.hid (OwnR.push (HM.out.1.after ((Wrote.refl _ _).alloc _)) (HM.out.2.beside ((Wrote.refl Nil w2).alloc _) fun _ _ => id) hp); clear hp))
      go_roundw
      case rel =>
        refine ⟨k + 1, q2, by omega, by go_num, ?_, by rw [List.range_succ]; exact HP.out.2⟩
        rw [nodesI_more, ← List.append_assoc, ← rep_more]
        exact HP.out.1
      case measure => simp [intOf]; omega
    · obtain rfl : k = 8 := by omega
      obtain ⟨bn, on, cn, hv, hra, hbn⟩ := hO.rowAt (by decide)
      rw [List.length_range] at hv hra
      subst hv
      have hlen : (hs ++ nodesI 8).length = hs.length + 8 := by rw [List.length_append]; rfl
      have cG := fl_inner (cap := cn) hl.plan hG hra ok_nodes (by decide) (by decide) (by rw [hlen]; omega) hbn
      rw [hl.pq] at cG
      have HL := Lib.hid hl
      clear hl hO hra hbn
      go_wp2_with (first
        | (go_at_call 67; (with_reducible refine cG.mono ?_); intro e w2 hq; unfold InnerPost at hq; obtain ⟨gi, q2, rfl, i1, i2, i3, i4, i5, i6, i7⟩ := hq; unfold Ip.val; have hl2 := HL.out.grew i5 i4 i6 i7; have c4 : w2.cell? ⟨M.lb, 4, none⟩ = some .nilIface := hl2.cell 4; have z4 := hl2.frz 4; have hl3 := hl2.set0 4 (.iface gi.ty (.pointer (some ⟨gi.lb, 0, none⟩))) (objC_setG M.p M.bud hs.length .nilIface gi.val (fun _ => .nilIface) M.tb M.n); have c13 : (w2.setCell ⟨M.lb, 4, none⟩ (.iface gi.ty (.pointer (some ⟨gi.lb, 0, none⟩)))).cell? ⟨M.lb, 13, none⟩ = some (.slice (some ⟨M.tb, 0, none⟩) M.n M.n) := hl3.cell 13; have hR3 := lay_row hl3 HE.out.1 HE.out.2.2.1; have cP := fl_places (cap := cap) c13 hl3.ctx hR3 HE.out.2.1 n64 hl3.ne.2.1 (fun e => HE.out.2.2.1 (.inr (.inr e))); have HG := Lib.hid (ld_pre (Wa := w2) hl3 i1 i2 (Nat.le_trans HL.out.wr.size i3.1)); clear i1 i2 i3 i4 i5 i6 i7 hl2 hl3 hR3 c13)
        | (go_at_call 68; (with_reducible refine cP.mono ?_); intro e w3 hq; unfold PlacesPost at hq; obtain ⟨vq, rfl, g1, g2, g3⟩ := hq; have HS := Lib.hid (ld_start (K := K) HG.out g1 g2 g3); clear g1 g2 g3 cP cG))
      clear HL
      go_loopw [12, 13, 40] (fun _ _ i wr => ∃ (m : Nat) (q' : Pl) (I : Nat → Ip), m ≤ 8 ∧ i = .int .i64 m ∧ LdSt w q M t hs vs hN G K vq gi m q' I wr) (fun _ _ i _ => 8 - (intOf i).toNat)
      case atStart => exact ⟨0, _, _, by decide, rfl, HS.out⟩
      case round =>
        clear HS HG
        obtain ⟨m, q', I, hm, rfl, hl⟩ := hrel
        by_cases hlt : m < 8
        · have hx := ixr vq hlt
          obtain ⟨sa, cp, hv⟩ := (hl.rows m hlt).row.form
          rw [List.length_map, show (rowK hN M.n m).length = cntN hN m M.n from List.length_replicate] at hv
          by_cases hc : 0 < cntN hN m M.n
          · have hlY := hl.after ((Wrote.refl Nil wr).drew)
            obtain ⟨bm, om, cm, hv2, hra, hbm⟩ := (hlY.rows m hlt).rowAt (by intro e; have := congrArg List.length e; rw [show (rowK hN M.n m).length = cntN hN m M.n from List.length_replicate] at this; simp at this; omega)
            rw [show (rowK hN M.n m).length = cntN hN m M.n from List.length_replicate] at hv2 hra
            rw [show (rowK hN M.n m).map (fun (k : Nat) => (k : Int)) = List.replicate (cntN hN m M.n) (m : Int) from List.map_replicate] at hra
            have c64 := cntN_le hN m M.n
            have lz := lZ_le K (fun c => cntN hN c M.n) m fun c => by have := cntN_le hN c M.n; omega
            have gz := inZ_le G 8
            have cI := fl_inner (cap := cm) hlY.lay.plan hK hra (ok_rep _ _ hlt) hc (by omega) (by rw [List.length_append, List.length_append, gH_len, lH_len]; omega) hbm
            rw [hlY.lay.pq] at cI
            rw [hv2] at hx
            have hcI : (0 : Int) < (cntN hN m M.n : Nat) := by omega
            have hmI : (m : Int) < 8 := by omega
            have em : lvK I (fun c => cntN hN c M.n) m m = .nilIface := if_neg fun e => by omega
            have HL := Lib.hid (And.intro hlY hc)
            clear hl hlY hv hv2 hra hbm lz gz
            generalize hcn : cntN hN m M.n = cn2 at hx cI hcI c64
            have HC := Lib.hid hcn
            clear hcn hc
            go_wp2
            go_region_held3 (fun _ => True) (exact trivial) (first | (go_at_call 67; (with_reducible refine cI.mono ?_); intro e w5 hq; rw [← HC.out] at hq; obtain ⟨J, q3, rfl, ⟨c5, z5⟩, hld⟩ := HL.out.1.add hlt HL.out.2 hq; rw [em] at c5; have HJ := Lib.hid hld; clear hld hq))
            all_goals
              go_wp2
              go_roundw
              case rel => exact ⟨m + 1, _, _, by omega, by go_num, HJ.out⟩
              case measure => simp [intOf]; omega
          · have h0 : cntN hN m M.n = 0 := by omega
            rw [h0] at hv
            rw [hv] at hx
            have HL := Lib.hid (hl.skip hc)
            clear hl hv h0 hc
            go_wp2
            go_roundw
            case rel => exact ⟨m + 1, _, _, by omega, by go_num, HL.out⟩
            case measure => simp [intOf]; omega
        · obtain rfl : m = 8 := by omega
          have HL := Lib.hid hl
          clear hl
          go_wp2
          go_end0
          exact ⟨rfl, vq, gi, q', I, HL.out⟩
end Go.Proofs.YtkmikkjjnbikdaaGreat
