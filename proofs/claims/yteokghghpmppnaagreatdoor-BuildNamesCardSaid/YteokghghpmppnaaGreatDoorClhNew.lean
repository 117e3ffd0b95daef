/- The contract of clh.New: a new lock of so many contexts, all Idle, its words laid behind the plan's; or none. -/
import Derived.Test.YteokghghpmppnaaGreatDoorClhEnd
import Derived.Test.YteokghghpmppnaaGreatDoorClhOrd
import Derived.Test.YteokghghpmppnaaGreatDoorHomed
import Derived.BigRegion
namespace Go.Proofs.YteokghghpmppnaaGreatDoor.Kc
open Go.RowKit Go.BigFrame
set_option linter.unusedVariables false
set_option maxRecDepth 100000

/-! ### the words are laid -/
abbrev lkO (p : Nat) (x y : Int) (tb n : Nat) : Array Value := #[.pointer (some ⟨p, 0, none⟩), .pointer none, .int .i64 x, .int .i64 y, .slice (some ⟨tb, 0, none⟩) n n]
/-- whose node is laid, of the first k -/
def nodeK (k j : Nat) : Int := if j < k then (j : Int) + 1 else 0
theorem nodeK_more (k : Nat) : upd (nodeK k) k ((k : Int) + 1) = nodeK (k + 1) := by
  funext j
  unfold nodeK upd
  by_cases e : j = k
  · subst e; simp
  · rw [if_neg e]
    show (if j < k then (j : Int) + 1 else 0) = if j < k + 1 then (j : Int) + 1 else 0
    by_cases h : j < k
    · rw [if_pos h, if_pos (by omega)]
    · rw [if_neg h, if_neg (by omega)]
theorem nodeK_0 : nodeK 0 = fun _ => 0 := by funext j; unfold nodeK; rw [if_neg (by omega)]
theorem nodeK_rng {n : Nat} (hn : n ≤ 64) (j : Nat) : 0 ≤ nodeK n j ∧ nodeK n j < 4294967296 := by unfold nodeK; split <;> omega
/-- amid it: so much is laid -/
structure LaySt (w : World) (q : Pl) (t : Int) (lb tb b o n : Nat) (zs : List Int) (cs : Array Value) (m : Nat) (hs vs : List Int) (wr : World) : Prop where
  plan : ∃ q' : Pl, q'.p = q.p ∧ PlanAt wr q' t hs vs ∧ Came w q.F q'.F
  kp : Wrote (fun j => q.F j ∨ j = lb ∨ j = tb) w wr
  obj : wr.heap[lb]? = some (.cells cs 96 (0, 0))
  tick : wr.heap[tb]? = some (.cells (tks n (fun _ => 0) (nodeK m) (fun _ => 0)).toArray 128 (0, 0))
  row : RowAt .i64 wr (some ⟨b, o, none⟩) n zs
  lt : lb < w.heap.size ∧ b < w.heap.size ∧ tb < w.heap.size
  ne : ¬ q.F lb ∧ ¬ q.F b ∧ ¬ q.F tb ∧ b ≠ lb ∧ b ≠ tb ∧ lb ≠ tb
namespace LaySt
variable {w wr w' : World} {q : Pl} {t : Int} {lb tb b o n m : Nat} {zs : List Int} {cs : Array Value} {hs vs : List Int}
theorem far (h : LaySt w q t lb tb b o n zs cs m hs vs wr) {q' : Pl} (c : Came w q.F q'.F) : ¬ q'.F lb ∧ ¬ q'.F b ∧ ¬ q'.F tb := by
  have hl := h.lt
  have hn := h.ne
  refine ⟨fun e => ?_, fun e => ?_, fun e => ?_⟩
  · rcases c _ e with e | e
    · exact hn.1 e
    · omega
  · rcases c _ e with e | e
    · exact hn.2.1 e
    · omega
  · rcases c _ e with e | e
    · exact hn.2.2.1 e
    · omega
theorem set (h : LaySt w q t lb tb b o n zs cs m hs vs wr) (i : Nat) (v : Value) : LaySt w q t lb tb b o n zs (cs.setIfInBounds i v) m hs vs (wr.setCell ⟨lb, i, none⟩ v) := by
  obtain ⟨q', hq, hP, hC⟩ := h.plan
  obtain ⟨f1, f2, f3⟩ := h.far hC
  have k : Wrote (One lb) wr (wr.setCell ⟨lb, i, none⟩ v) := (Wrote.refl _ _).setCell _ _ fun _ => rfl
  refine ⟨⟨q', hq, hP.wrote k fun j hj e => by cases e; exact f1 hj, hC⟩, h.kp.trans k fun j _ e => .inr (.inl e), blk_setCell h.obj i v, (k.block _ (blk_lt h.tick) fun e => h.ne.2.2.2.2.2 e.symm).trans h.tick, h.row.wrote k fun a ha e => ?_, h.lt, h.ne⟩
  cases ha
  exact h.ne.2.2.2.1 e
theorem setN (h : LaySt w q t lb tb b o n zs cs m hs vs wr) : LaySt w q t lb tb b o n zs cs (m + 1) hs vs (wr.setCell ⟨tb, m * 3 + 1, none⟩ (.int .u32 ((m : Int) + 1))) := by
  obtain ⟨q', hq, hP, hC⟩ := h.plan
  obtain ⟨f1, f2, f3⟩ := h.far hC
  have k : Wrote (One tb) wr (wr.setCell ⟨tb, m * 3 + 1, none⟩ (.int .u32 ((m : Int) + 1))) := (Wrote.refl _ _).setCell _ _ fun _ => rfl
  refine ⟨⟨q', hq, hP.wrote k fun j hj e => by cases e; exact f3 hj, hC⟩, h.kp.trans k fun j _ e => .inr (.inr e), (k.block _ (blk_lt h.obj) h.ne.2.2.2.2.2).trans h.obj, ?_, h.row.wrote k fun a ha e => ?_, h.lt, h.ne⟩
  · rw [blk_setCell h.tick, List.setIfInBounds_toArray, tks_set1, nodeK_more]
  · cases ha
    exact h.ne.2.2.2.2.1 e
theorem home (h : LaySt w q t lb tb b o n zs cs m hs vs wr) {j : Nat} (hj : j < n) : wr.cell? ⟨b, o + j, none⟩ = some (.int .i64 (zs.getD j 0)) := by
  rcases h.row.at with h0 | ⟨b', o', e, hc⟩
  · omega
  · cases e
    exact hc j hj
theorem home0 (h : LaySt w q t lb tb b o n zs cs m hs vs wr) (hn : 0 < n) : wr.cell? ⟨b, o, none⟩ = some (.int .i64 (zs.getD 0 0)) := h.home hn
theorem place {p r : Nat} {x y : Int} (h : LaySt w q t lb tb b o n zs (lkO p x y tb r) m hs vs wr) : wr.cell? ⟨lb, 4, none⟩ = some (.slice (some ⟨tb, 0, none⟩) r r) := by rw [blk_cell h.obj]; rfl
theorem node (h : LaySt w q t lb tb b o n zs cs m hs vs wr) {j : Nat} (hj : j < n) : wr.cell? ⟨tb, j * 3 + 1, none⟩ = some (.int .u32 (nodeK m j)) := by
  rw [blk_cell h.tick, List.getElem?_toArray]
  exact tks_at n _ _ _ hj (j := 1) (by decide)
end LaySt
def LayPost (w : World) (q : Pl) (t : Int) (lb tb b o n : Nat) (zs : List Int) (cs : Array Value) (m : Nat) (hs vs : List Int) (r : Value) (e : Ending) (w' : World) : Prop := e = .returned r ∧ LaySt w q t lb tb b o n zs cs m hs vs w'
section
variable {w wr : World} {q : Pl} {t : Int} {lb tb b o n m : Nat} {zs : List Int} {cs : Array Value} {hs vs : List Int}
theorem ly_word (h : LaySt w q t lb tb b o n zs cs m hs vs wr) (x v : Int) (hL : hs.length ≤ 1000000) :
    Calls Tryz.prog 26 #[.pointer (some ⟨q.p, 0, none⟩), .int .i64 x, .int .u32 v] wr (LayPost w q t lb tb b o n zs cs m (hs ++ [x]) (vs ++ [v]) (.int .i64 (hs.length : Nat))) := by
  obtain ⟨q', hq, hP, hC⟩ := h.plan
  obtain ⟨f1, f2, f3⟩ := h.far hC
  have c := plword_any hP x v hL
  rw [hq] at c
  refine c.mono ?_
  intro e w2 hp
  unfold PlanPost at hp
  obtain ⟨rfl, q2, hq2, hP2, hW, hC2⟩ := hp
  refine ⟨rfl, ⟨q2, hq2.trans hq, hP2, hC.trans hC2 h.kp.size⟩, h.kp.trans hW fun j hj e => ?_, (hW.block _ (blk_lt h.obj) f1).trans h.obj, (hW.block _ (blk_lt h.tick) f3).trans h.tick, h.row.wrote hW fun a ha e => ?_, h.lt, h.ne⟩
  · rcases hC j e with e | e
    · exact .inl e
    · omega
  · cases ha
    exact f2 e
end

theorem takez_more (zs : List Int) {k : Nat} (hk : k < zs.length) : zs.take (k + 1) = zs.take k ++ [zs.getD k 0] := by
  rw [List.take_add_one, List.getElem?_eq_getElem hk, List.getD_eq_getElem?_getD, List.getElem?_eq_getElem hk]
  rfl
theorem repz_more (k : Nat) (x : Int) : List.replicate (k + 1) x = List.replicate k x ++ [x] := by rw [List.replicate_succ']
set_option maxHeartbeats 2000000 in
theorem lay_any {w : World} {q : Pl} {t : Int} {lb b o n cap p tb : Nat} {zs : List Int} {hs vs : List Int} (h : LaySt w q t lb tb b o n zs (lkO p 0 0 tb n) 0 hs vs w) (n1 : 1 ≤ n) (n2 : n ≤ 64) (hL : hs.length ≤ 900000) :
    Calls Tryz.prog 30 #[.pointer (some ⟨lb, 0, none⟩), .pointer (some ⟨q.p, 0, none⟩), .slice (some ⟨b, o, none⟩) n cap] w
      (LayPost w q t lb tb b o n zs (lkO p (hs.length : Nat) ((hs.length : Nat) + 1) tb n) n (hs ++ [zs.getD 0 0] ++ [zs.getD 0 0] ++ zs) (vs ++ [0] ++ [0] ++ List.replicate n 0) (.tuple #[])) := by
  have hc := h.home0 n1
  have hlen := h.row.len
  obtain ⟨x, hx⟩ : ∃ x, x = zs.getD 0 0 := ⟨_, rfl⟩
  rw [← hx] at hc ⊢
  have cW := ly_word h x 0 (by omega)
  have o0 := blk_cell h.obj
  have f2 := blk_frozen h.obj 2
  have HH := Lib.hid (And.intro h hx)
  clear h hx
  have n0 : (0 : Nat) < n := n1
  go_enter Tryz.func30, Tryz.ntmps30
  go_wp2_with (first
    | (go_at_call 26; (with_reducible refine cW.mono ?_); intro e w2 hq; unfold LayPost at hq; obtain ⟨rfl, hA⟩ := hq; have g2 := blk_frozen hA.obj 2; have q2 : w2.cell? ⟨lb, 2, none⟩ = some (.int .i64 0) := (blk_cell hA.obj 2).trans rfl; have hA2 : LaySt w q t lb tb b o n zs (lkO p (hs.length : Nat) 0 tb n) 0 (hs ++ [x]) (vs ++ [0]) (w2.setCell ⟨lb, 2, none⟩ (.int .i64 (hs.length : Nat))) := hA.set 2 (.int .i64 (hs.length : Nat)); have y0 := hA2.home0 n0; rw [← HH.out.2] at y0; have cX := ly_word hA2 x 0 (by simp; omega); rw [show (((hs ++ [x]).length : Nat) : Int) = (hs.length : Int) + 1 by simp] at cX; clear hA hA2)
    | (go_at_call 26; (with_reducible refine cX.mono ?_); intro e w3 hq; unfold LayPost at hq; obtain ⟨rfl, hA⟩ := hq; have g3 := blk_frozen hA.obj 3; have q3 : w3.cell? ⟨lb, 3, none⟩ = some (.int .i64 0) := (blk_cell hA.obj 3).trans rfl; have hA3 : LaySt w q t lb tb b o n zs (lkO p (hs.length : Nat) ((hs.length : Nat) + 1) tb n) 0 (hs ++ [x] ++ [x]) (vs ++ [0] ++ [0]) (w3.setCell ⟨lb, 3, none⟩ (.int .i64 ((hs.length : Nat) + 1))) := hA.set 3 (.int .i64 ((hs.length : Nat) + 1)); have HA := Lib.hid hA3; clear hA hA3))
  clear cW cX hc o0 f2 g2 g3 q2 q3 y0 n0
  go_loopw [6, 7, 26] (fun _ _ i wr => ∃ k : Nat, k ≤ n ∧ i = .int .i64 k ∧ LaySt w q t lb tb b o n zs (lkO p (hs.length : Nat) ((hs.length : Nat) + 1) tb n) k (hs ++ [x] ++ [x] ++ zs.take k) (vs ++ [0] ++ [0] ++ List.replicate k 0) wr) (fun _ _ i _ => n - (intOf i).toNat)
  case atStart => exact ⟨0, Nat.zero_le _, rfl, by simpa using HA.out⟩
  case round =>
    clear HA HH
    obtain ⟨k, hk, rfl, hl⟩ := hrel
    by_cases hlt : k < n
    · have yc := hl.home hlt
      have hmore := takez_more zs (k := k) (by omega)
      have rmore := repz_more k 0
      have cW := ly_word hl (zs.getD k 0) 0 (by simp only [List.length_append, List.length_singleton, List.length_take]; omega)
      rw [List.append_assoc (hs ++ [x] ++ [x]), ← hmore, List.append_assoc (vs ++ [0] ++ [0]), ← rmore] at cW
      generalize zs.getD k 0 = y at *
      have hwu : IntKind.u32.wrap ((k : Int) + 1) = (k : Int) + 1 := by show ((k : Int) + 1) % 4294967296 = _; omega
      clear hl hmore rmore
      go_wp2_with (first
        | (go_at_call 26; (with_reducible refine cW.mono ?_); intro e w2 hq; unfold LayPost at hq; obtain ⟨rfl, hA⟩ := hq; have j4 := hA.place; have j1 := hA.node hlt; have jz := blk_frozen hA.tick (k * 3 + 1); have HA := Lib.hid hA.setN; clear hA))
      go_roundw
      case rel => exact ⟨k + 1, by omega, by go_num, HA.out⟩
      case measure => simp [intOf]; omega
    · obtain rfl : k = n := by omega
      have HL := Lib.hid hl
      clear hl
      go_wp2
      go_end0
      have e := HL.out
      rw [List.take_of_length_le (by omega)] at e
      exact ⟨rfl, e⟩

/-! ### a new lock -/
theorem i_pl : (Tryz.prog.info? 128).map (fun i => (i.zero, i.size, i.bytes)) = some (some (.agg #[.int .i64 0, .int .u32 0, .int .u32 0]), 3, 16) := by kernel_rfl
theorem made_tk (n : Nat) : madeCells (Value.agg #[.int .i64 0, .int .u32 0, .int .u32 0]).cells (n * 3) = (tks n (fun _ => 0) (nodeK 0) (fun _ => 0)).toArray := by
  rw [nodeK_0]
  apply Array.ext'
  show (madeCells (#[.int .i64 0, .int .u32 0, .int .u32 0] : Array Value) (n * 3)).toList = tks n (fun _ => 0) (fun _ => 0) (fun _ => 0)
  apply List.ext_getElem?
  intro m
  by_cases hm : m < n * 3
  · have ha : m / 3 < n := by omega
    have e : m = m / 3 * 3 + m % 3 := by omega
    have h2 := tks_at n (fun _ => 0) (fun _ => 0) (fun _ => 0) (k := m / 3) ha (j := m % 3) (Nat.mod_lt _ (by decide))
    rw [← e] at h2
    rw [h2]
    unfold madeCells
    rw [Array.toList_map, List.getElem?_map, Array.toList_range, List.getElem?_range hm]
    have : m % 3 = 0 ∨ m % 3 = 1 ∨ m % 3 = 2 := by omega
    rcases this with h | h | h <;> simp [h, tkC]
  · rw [List.getElem?_eq_none (by simp [madeCells]; omega), List.getElem?_eq_none (by unfold tks; rw [flat_len (tkC_len _ _ _), List.length_range]; omega)]
/-- a lock that was made behind a world -/
def NewClhPost (w : World) (q : Pl) (t : Int) (hs vs : List Int) (n : Nat) (zs : List Int) (e : Ending) (w' : World) : Prop :=
  ∃ (L : Lp) (q' : Pl), e = .returned (.tuple #[.pointer (some ⟨L.lb, 0, none⟩), .int .i64 0]) ∧ FlRaw w' L (.pointer none) (newSeat n false true) (fun _ => 0) (nodeK n) (fun _ => 0) ∧
    (w.heap.size ≤ L.lb ∧ w.heap.size ≤ L.p ∧ w.heap.size ≤ L.b ∧ w.heap.size ≤ L.tb) ∧ L.a1 = hs.length ∧ L.a2 = hs.length + 1 ∧ q'.p = q.p ∧ PlanAt w' q' t (hs ++ [zs.getD 0 0] ++ [zs.getD 0 0] ++ zs) (vs ++ [0] ++ [0] ++ List.replicate n 0) ∧ Wrote q.F w w' ∧ Came w q.F q'.F
theorem lay_start {w ws : World} {q : Pl} {t : Int} {hs vs : List Int} {b o n : Nat} {zs : List Int} (h : PlanAt w q t hs vs) (k : Wrote Nil w ws) (hr : RowAt .i64 w (some ⟨b, o, none⟩) n zs) (hbl : b < w.heap.size) (hb : ¬ q.F b) (A cs : Array Value) (hA : (tks n (fun _ => 0) (nodeK 0) (fun _ => 0)).toArray = A) {lb tb : Nat} (hlb : lb = ws.heap.size + 1) (htb : tb = ws.heap.size) :
    LaySt ((ws.alloc (.cells A 128)).alloc (.cells cs 96)) q t lb tb b o n zs cs 0 hs vs ((ws.alloc (.cells A 128)).alloc (.cells cs 96)) := by
  have k2 : Wrote Nil w ((ws.alloc (.cells A 128)).alloc (.cells cs 96)) := (k.alloc _).alloc _
  have e1 : (ws.alloc (.cells A 128)).heap.size = ws.heap.size + 1 := Go.Deep.nblk_alloc _ _
  have e2 : ((ws.alloc (.cells A 128)).alloc (.cells cs 96)).heap.size = ws.heap.size + 1 + 1 := by rw [Go.Deep.nblk_alloc, e1]
  have s1 := k.size
  have hF : ∀ j, w.heap.size ≤ j → ¬ q.F j := fun j hj e => by have := h.lt e; omega
  refine ⟨⟨q, rfl, h.after k2, Came.refl _ _⟩, Wrote.refl _ _, ?_, ?_, hr.after k2, by omega, hF _ (by omega), hb, hF _ (by omega), by omega, by omega, by omega⟩
  · rw [hlb, ← e1]
    exact Go.Deep.blk_alloc_new _ _
  · rw [htb, hA, Go.Deep.blk_alloc_lt _ _ _ (by rw [e1]; omega)]
    exact Go.Deep.blk_alloc_new _ _
theorem fn_end {w wq wr : World} {q : Pl} {t : Int} {hs vs : List Int} {b o n p sb lb tb : Nat} {zs : List Int} {A : Array Value} (h : PlanAt w q t hs vs) (k1 : Wrote Nil w wq) (hS : SeatAt wq p sb (newSeat n false true)) (hp : w.heap.size ≤ p) (hsb : w.heap.size ≤ sb) (htb : tb = wq.heap.size) (hlb : lb = wq.heap.size + 1) (n2 : n ≤ 64) (hL : hs.length ≤ 900000) (cs : Array Value)
    (hl : LaySt ((wq.alloc (.cells A 128)).alloc (.cells cs 96)) q t lb tb b o n zs (lkO p (hs.length : Nat) ((hs.length : Nat) + 1) tb n) n (hs ++ [zs.getD 0 0] ++ [zs.getD 0 0] ++ zs) (vs ++ [0] ++ [0] ++ List.replicate n 0) wr) :
    NewClhPost w q t hs vs n zs (.returned (.tuple #[.pointer (some ⟨lb, 0, none⟩), .int .i64 0])) wr := by
  generalize hX : (wq.alloc (.cells A 128)).alloc (.cells cs 96) = X at hl
  have e1 : (wq.alloc (.cells A 128)).heap.size = wq.heap.size + 1 := Go.Deep.nblk_alloc _ _
  have e2 : X.heap.size = wq.heap.size + 1 + 1 := by rw [← hX, Go.Deep.nblk_alloc, e1]
  have k3 : Wrote Nil wq X := by rw [← hX]; exact ((Wrote.refl _ _).alloc _).alloc _
  have kX : Wrote Nil w X := k1.nil k3
  have s1 := k1.size
  have s3 := k3.size
  have hF : ∀ k, w.heap.size ≤ k → k ≠ lb → k ≠ tb → ¬ (q.F k ∨ k = lb ∨ k = tb) := fun k hk hk2 hk3 e => by
    rcases e with e | e | e
    · have := h.lt e; omega
    · exact hk2 e
    · exact hk3 e
  have l1 := blk_lt hS.obj
  have l2 := blk_lt hS.ctx
  have hne := hS.ne
  have hSX := hS.wrote (k3.mono fun _ _ e => e.elim : Wrote Nil wq X) id id
  obtain ⟨q', hq, hP, hC⟩ := hl.plan
  refine ⟨⟨lb, p, sb, tb, hs.length, (hs.length : Int) + 1, ⟨0, 0, 0, 0, 0, 0, 0, 0, 0, 0, 0, 0, .pointer none⟩, []⟩, q', rfl, ⟨hl.obj, hSX.wrote hl.kp (hF p hp (by omega) (by omega)) (hF sb hsb (by omega) (by omega)), hl.tick, ⟨by dsimp only; omega, by dsimp only; omega, by dsimp only; omega, by dsimp only; omega, by dsimp only; omega⟩, fun j => ⟨.inl rfl, nodeK_rng n2 j, by decide⟩, by dsimp only; omega⟩, ⟨by dsimp only; omega, by dsimp only; omega, by dsimp only; omega, by dsimp only; omega⟩, rfl, rfl, hq, hP, ?_, fun j hj => ?_⟩
  · exact (kX.mono (fun _ _ e => e.elim) : Wrote q.F w X).trans hl.kp fun j hj e => by
      rcases e with e | e | e
      · exact e
      · omega
      · omega
  · rcases hC j hj with e | e
    · exact .inl e
    · exact .inr (by omega)

set_option maxHeartbeats 2000000 in
theorem fn_new {w : World} {q : Pl} {t : Int} {hs vs : List Int} (h : PlanAt w q t hs vs) {b o n cap : Nat} {zs : List Int} (hr : RowAt .i64 w (some ⟨b, o, none⟩) n zs) (ho : homesOK zs = true) (n1 : 1 ≤ n) (n2 : n ≤ 64) (hL : hs.length ≤ 900000) (hb : ¬ q.F b) :
    Calls Tryz.prog 18 #[.pointer (some ⟨q.p, 0, none⟩), .slice (some ⟨b, o, none⟩) n cap] w (NewClhPost w q t hs vs n zs) := by
  obtain ⟨i0, hi, hz0, hz1, hz2⟩ := info_parts i_pl
  have hmk : ∀ w : World, (Instr.makeSlice 94 (.int .i64 (n : Int)) (.int .i64 (n : Int))).run Tryz.prog w = .ok (.slice (some ⟨w.heap.size, 0, none⟩) n n) (w.alloc (.cells (tks n (fun _ => 0) (nodeK 0) (fun _ => 0)).toArray 128)) := by
    intro w
    have h := Go.run_make (P := Tryz.prog) w 94 128 i0 _ Tryz.underlying94 hi hz0 .i64 .i64 n n (by omega) (by omega) (by rw [hz2]; omega) (by omega)
    rw [hz1] at h
    simp only [Int.toNat_natCast] at h
    rw [made_tk n] at h
    exact h
  generalize hA : (tks n (fun _ => 0) (nodeK 0) (fun _ => 0)).toArray = A at hmk
  have cS := hm_seats (cap := cap) hr ho false true n1 n2
  have hbx : b < w.heap.size := World.block_lt_of_cell? w _ (hr.cell ⟨b, o, none⟩ rfl 0 (by omega))
  have HX := Lib.hid (And.intro h (And.intro hr (And.intro hA (And.intro hbx hb))))
  clear h hr ho hA hb hbx
  go_enter Tryz.func18, Tryz.ntmps18
  go_wp2_with (first
    | (go_at_call 24; (with_reducible refine cS.mono ?_); intro e wq hq; unfold NewSeatPost at hq; obtain ⟨p, sb, rfl, hS, hp, hsb, hW⟩ := hq; have HS := Lib.hid (And.intro hS (And.intro hp (And.intro hsb hW))); clear hS hp hsb hW cS)
    | (go_at_call 30; (with_reducible refine (lay_any (lay_start HX.out.1 HS.out.2.2.2 HX.out.2.1 HX.out.2.2.2.1 HX.out.2.2.2.2 A (lkO p 0 0 wq.heap.size n) HX.out.2.2.1 rfl rfl) n1 n2 hL).mono ?_); intro e wr hq; unfold LayPost at hq; obtain ⟨rfl, hl⟩ := hq; have HL := Lib.hid hl; clear hl))
  go_ret2
  obtain ⟨h, hr, hA, hbx, hb⟩ := HX.out
  exact fn_end h HS.out.2.2.2 HS.out.1 HS.out.2.1 HS.out.2.2.1 rfl rfl n2 hL _ HL.out
end Go.Proofs.YteokghghpmppnaaGreatDoor.Kc
