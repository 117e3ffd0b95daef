/- The contracts of mem.New and of (*mem.Mem).Words: a new memory has the given homes and words that are all nought; Words is a new row of all words. -/
import Derived.Test.YteokghghpmppnaaGreatDoorMem
namespace Go.Proofs.YteokghghpmppnaaGreatDoor
open Go.RowKit
set_option linter.unusedVariables false
set_option maxRecDepth 100000

def okH (h : Int) : Bool := decide (0 ≤ h ∧ h < 8)
def homesOK (hs : List Int) : Bool := hs.all okH
def newV (ok : Bool) (b : Nat) : Value := if ok then .tuple #[.pointer (some ⟨b, 0, none⟩), .int .i64 0] else .tuple #[.pointer none, .int .i64 1]

theorem ok_step {hs : List Int} {k : Nat} (hk : k < hs.length) (h : (hs.take k).all okH = true) (hx : okH (hs.getD k 0) = true) : (hs.take (k + 1)).all okH = true := by
  rw [List.take_succ_eq_append_getElem hk, List.all_append, h]
  have : hs.getD k 0 = hs[k] := by simp [hk]
  rw [this] at hx
  simpa using hx
theorem ok_bad {hs : List Int} {k : Nat} (hk : k < hs.length) (hx : okH (hs.getD k 0) = false) : homesOK hs = false := by
  unfold homesOK
  rw [List.all_eq_false]
  have : hs.getD k 0 = hs[k] := by simp [hk]
  exact ⟨hs[k], List.getElem_mem hk, by rw [← this, hx]; decide⟩

theorem made_words (n : Nat) : madeCells (Value.agg #[.int .u32 0]).cells (n * 1) = ((List.replicate n (0 : Int)).map (Value.int .u32)).toArray := by
  simp only [Nat.mul_one, madeCells, Value.cells]
  apply Array.ext
  · simp
  · intro i h1 h2
    simp [Nat.mod_one]

theorem made_is {w : World} {b bw : Nat} {ao : Option Addr} {m cap : Nat} {hs : List Int} (hm : m ≤ 4096) (ho : w.heap[b]? = some (.cells #[.slice ao m cap, .slice (some ⟨bw, 0, none⟩) m m] 54 (0, 0)))
    (hw : w.heap[bw]? = some (.cells ((List.replicate m (0 : Int)).map (Value.int .u32)).toArray 149 (0, 0))) (hh : w.ownsRow 0 3 1 (.slice ao m cap) m (hs.map (Value.int .i64))) (hne : bw ≠ b) (hap : ∀ k, (Value.slice ao m cap).ownBlock = some k → k ≠ bw) :
    MemAt w b bw (.slice ao m cap) hs (List.replicate m 0) :=
  ⟨by simpa using ho, by simpa using hh, hw, hne, hap, by simpa using hm, fun z hz => by simp at hz; omega⟩


/-- what is known behind the making, whatever the order -/
def Made (w X : World) (b bw : Nat) (ao : Option Addr) (m cap : Nat) (hs : List Int) : Prop :=
  MemAt X b bw (.slice ao m cap) hs (List.replicate m 0) ∧ w.heap.size ≤ b ∧ w.heap.size ≤ bw ∧ (∀ k, (Value.slice ao m cap).ownBlock = some k → w.heap.size ≤ k) ∧ Wrote Nil w X

theorem rep_words (m : Nat) : ((List.replicate m (0 : Int)).map (Value.int .u32)).toArray = Array.replicate m (Value.int .u32 0) := by simp

theorem made_first {w w1 : World} {ao : Option Addr} {m cap : Nat} {hs : List Int} (hm : m ≤ 4096) (hown : w1.ownsRow w.drew.heap.size 3 1 (.slice ao m cap) m (hs.map (Value.int .i64))) (hgrow : w.drew.grownBy w1 none) :
    Made w ((w1.alloc (.cells (Array.replicate m (Value.int .u32 0)) 149)).alloc (.cells #[.slice ao m cap, .slice (some ⟨w1.heap.size, 0, none⟩) m m] 54)) (w1.heap.size + 1) w1.heap.size ao m cap hs := by
  have hsz : w.heap.size ≤ w1.heap.size := hgrow.size
  have hlt := hown.lt
  have hW : Wrote Nil w w1 := ((Wrote.refl Nil w).drew).grown hgrow (fun k hk => by cases hk)
  refine ⟨made_is hm ?_ ?_ ?_ (by omega) (fun k hk => by have := (hlt k hk).2; omega), by omega, hsz, fun k hk => (hlt k hk).1, (hW.alloc _).alloc _⟩
  · have h := Go.Deep.blk_alloc_new (w1.alloc (.cells (Array.replicate m (Value.int .u32 0)) 149)) (.cells #[.slice ao m cap, .slice (some ⟨w1.heap.size, 0, none⟩) m m] 54)
    rw [Go.Deep.nblk_alloc] at h
    exact h
  · rw [Go.Deep.blk_alloc_lt _ _ _ (by rw [Go.Deep.nblk_alloc]; omega), Go.Deep.blk_alloc_new, rep_words]
  · exact ((ownsRow_base hown (Nat.zero_le _)).alloc _).alloc _

theorem made_last {w w1 : World} {ao : Option Addr} {m cap : Nat} {hs : List Int} (hm : m ≤ 4096) (hown : w1.ownsRow (w.drew.alloc (.cells (Array.replicate m (Value.int .u32 0)) 149)).heap.size 3 1 (.slice ao m cap) m (hs.map (Value.int .i64)))
    (hgrow : (w.drew.alloc (.cells (Array.replicate m (Value.int .u32 0)) 149)).grownBy w1 none) :
    Made w (w1.alloc (.cells #[.slice ao m cap, .slice (some ⟨w.heap.size, 0, none⟩) m m] 54)) w1.heap.size w.heap.size ao m cap hs := by
  have hsz : w.heap.size + 1 ≤ w1.heap.size := by have := hgrow.size; rw [Go.Deep.nblk_alloc] at this; exact this
  have hlt : ∀ k, (Value.slice ao m cap).ownBlock = some k → w.heap.size + 1 ≤ k ∧ k < w1.heap.size := by have h := hown.lt; rw [Go.Deep.nblk_alloc] at h; exact h
  have hW : Wrote Nil w w1 := ((Wrote.refl Nil w).drew.alloc _).grown hgrow (fun k hk => by cases hk)
  refine ⟨made_is hm (Go.Deep.blk_alloc_new _ _) ?_ ((ownsRow_base hown (Nat.zero_le _)).alloc _) (by omega) (fun k hk => by have := (hlt k hk).1; omega), by omega, Nat.le_refl _, fun k hk => by have := (hlt k hk).1; omega, hW.alloc _⟩
  rw [Go.Deep.blk_alloc_lt _ _ _ (by omega), hgrow.block _ (by rw [Go.Deep.nblk_alloc]; exact Nat.lt_succ_self _) (by simp), rep_words]
  exact Go.Deep.blk_alloc_new w.drew _

def NewPost (w : World) (hs : List Int) (m : Nat) (e : Ending) (w' : World) : Prop :=
  ∃ b bw hv, e = .returned (newV (homesOK hs) b) ∧ MemAt w' b bw hv hs (List.replicate m 0) ∧ w.heap.size ≤ b ∧ w.heap.size ≤ bw ∧ (∀ k, hv.ownBlock = some k → w.heap.size ≤ k) ∧ Wrote Nil w w'

set_option maxHeartbeats 1000000 in
theorem new_small {w : World} {sa : Option Addr} {m c : Nat} {hs : List Int} (hr : RowAt .i64 w sa m hs) (hm : m ≤ 4096) :
    Calls Tryz.prog 38 #[.slice sa m c] w (NewPost w hs m) := by
  obtain ⟨i0, hi, hz0, hz1, hz2⟩ := info_parts info_int
  obtain ⟨i1, gi, gz0, gz1, gz2⟩ := info_parts info_word
  have hmk : ∀ w : World, (Instr.makeSlice 52 (.int .i64 (m : Int)) (.int .i64 (m : Int))).run Tryz.prog w = .ok (.slice (some ⟨w.heap.size, 0, none⟩) m m) (w.alloc (.cells ((List.replicate m (0 : Int)).map (Value.int .u32)).toArray 149)) := by
    intro w
    have h := Go.run_make (P := Tryz.prog) w 52 149 i1 _ Tryz.underlying52 gi gz0 .i64 .i64 m m (by omega) (by omega) (by rw [gz2]; omega) (by omega)
    rw [gz1] at h
    simp only [Int.toNat_natCast] at h
    rw [made_words] at h
    exact h
  have hlen := hr.len
  go_enter Tryz.func38, Tryz.ntmps38
  go_wp2
  go_region_law (refine step_append_fresh rfl _ _ 36 rfl 3 i0 (.int .i64 0) 8 Tryz.underlying36 hi hz0 hz1 hz2 rfl (by simp [Act.eval]) sa m c (hs.map (Value.int .i64)) (by simp [Act.eval, Act.put]) hr.empty (by simpa using hlen) (by first | exact hr.news | exact (hr.after ((Wrote.refl Nil w).drew.alloc _)).news) (by intro u hu; simp only [List.mem_map] at hu; obtain ⟨z, _, rfl⟩ := hu; rfl) (by unfold maxLen; omega) (by omega) ?_; intro ao cap w1 hown hgrow)
  all_goals first
    | (have R := made_first hm hown hgrow
       obtain ⟨X, hX⟩ : ∃ X, X = (w1.alloc (.cells (Array.replicate m (Value.int .u32 0)) 149)).alloc (.cells #[.slice ao m cap, .slice (some ⟨w1.heap.size, 0, none⟩) m m] 54) := ⟨_, rfl⟩
       rw [← hX] at R ⊢
       clear hX hown hgrow
       generalize w1.heap.size + 1 = b at R ⊢
       generalize w1.heap.size = bw at R ⊢)
    | (have R := made_last hm hown hgrow
       obtain ⟨X, hX⟩ : ∃ X, X = w1.alloc (.cells #[.slice ao m cap, .slice (some ⟨w.heap.size, 0, none⟩) m m] 54) := ⟨_, rfl⟩
       rw [← hX] at R ⊢
       clear hX hown hgrow
       generalize w1.heap.size = b at R ⊢
       obtain ⟨bw, hbw⟩ : ∃ bw, bw = w.heap.size := ⟨_, rfl⟩
       rw [← hbw] at R ⊢)
  all_goals
    obtain ⟨hM, rb, rbw, rown, hW⟩ := R
    have hao : m = 0 ∨ ∃ g, ao = some ⟨g, 0, none⟩ ∧ ∀ k, k < m → X.cell? ⟨g, k, none⟩ = some (.int .i64 (hs.getD k 0)) := by
      rcases Nat.eq_zero_or_pos m with h0 | h0
      · exact .inl h0
      · have hh := hM.homes
        rw [List.length_replicate] at hh
        obtain ⟨g, e, _, _⟩ := ownsRow_cell hh h0
        refine .inr ⟨g, e, fun k hk => ?_⟩
        obtain ⟨g', e', hc, _⟩ := ownsRow_cell hh hk
        rw [e] at e'
        simp only [Option.some.injEq, Addr.mk.injEq] at e'
        obtain ⟨rfl, _⟩ := e'
        rw [hc]
        simp [hlen, hk]
    have c0 := hM.cell0
    have HF := Lib.hid (And.intro hM (And.intro rb (And.intro rbw (And.intro rown hW))))
    clear hM rb rbw rown hW hr
    go_wp2
    go_loop [22] (fun i => ∃ k : Nat, k ≤ m ∧ i = .int .i64 k ∧ Hid ((hs.take k).all okH = true)) (fun i => m - (intOf i).toNat)
    case atStart => exact ⟨0, Nat.zero_le _, rfl, by simp [Hid]⟩
    case round =>
      obtain ⟨k, hk, rfl, hok⟩ := hrel
      by_cases hlt : k < m
      · rcases hao with h0 | ⟨g, rfl, hcell⟩
        · omega
        · obtain ⟨x, hx⟩ : ∃ x, x = hs.getD k 0 := ⟨_, rfl⟩
          have hc := hcell k hlt
          rw [← hx] at hc
          have X1 := Lib.hid (And.intro hx hcell)
          clear hx hcell
          by_cases x0 : x < 0
          · have hb : Hid (homesOK hs = false) := Lib.hid (ok_bad (k := k) (by omega) (by rw [← X1.out.1]; unfold okH; simp; omega))
            go_wp2
            go_ret2
            obtain ⟨f1, f2, f3, f4, f5⟩ := HF.out
            unfold NewPost
            exact ⟨b, bw, _, by rw [hb.out]; rfl, f1, f2, f3, f4, f5⟩
          · by_cases x1 : 8 ≤ x
            · have hb : Hid (homesOK hs = false) := Lib.hid (ok_bad (k := k) (by omega) (by rw [← X1.out.1]; unfold okH; simp; omega))
              go_wp2
              go_ret2
              obtain ⟨f1, f2, f3, f4, f5⟩ := HF.out
              unfold NewPost
              exact ⟨b, bw, _, by rw [hb.out]; rfl, f1, f2, f3, f4, f5⟩
            · have hb : Hid ((hs.take (k + 1)).all okH = true) := Lib.hid (ok_step (by omega) hok.out (by rw [← X1.out.1]; unfold okH; simp; omega))
              go_wp2
              go_round
              case rel => exact ⟨k + 1, by omega, by go_num, hb⟩
              case measure => simp [intOf]; omega
      · have hb : Hid (homesOK hs = true) := Lib.hid (by have h := hok.out; rw [List.take_of_length_le (by omega)] at h; exact h)
        go_wp2
        go_ret2
        obtain ⟨f1, f2, f3, f4, f5⟩ := HF.out
        unfold NewPost
        exact ⟨b, bw, _, by rw [hb.out]; rfl, f1, f2, f3, f4, f5⟩

theorem new_ok {w : World} {sa : Option Addr} {m c : Nat} {hs : List Int} (hr : RowAt .i64 w sa m hs) (hm : m ≤ 4096) (ho : homesOK hs = true) :
    Calls Tryz.prog 38 #[.slice sa m c] w fun e w' => ∃ b bw hv, e = .returned (.tuple #[.pointer (some ⟨b, 0, none⟩), .int .i64 0]) ∧ MemAt w' b bw hv hs (List.replicate m 0) ∧ w.heap.size ≤ b ∧ w.heap.size ≤ bw ∧ (∀ k, hv.ownBlock = some k → w.heap.size ≤ k) ∧ Wrote Nil w w' := by
  refine (new_small hr hm).mono ?_
  unfold NewPost
  rw [ho]
  exact fun e w' h => h

theorem new_bad {w : World} {sa : Option Addr} {m c : Nat} {hs : List Int} (hr : RowAt .i64 w sa m hs) (hm : m ≤ 4096) (ho : homesOK hs = false) :
    Calls Tryz.prog 38 #[.slice sa m c] w fun e w' => e = .returned (.tuple #[.pointer none, .int .i64 1]) ∧ Wrote Nil w w' := by
  refine (new_small hr hm).mono ?_
  unfold NewPost
  rw [ho]
  rintro e w' ⟨b, bw, hv, he, _, _, _, _, h⟩
  exact ⟨he, h⟩

theorem new_big {w : World} {sa : Option Addr} {m c : Nat} (hm : 4096 < m) (hm2 : m ≤ 9223372036854775807) :
    Calls Tryz.prog 38 #[.slice sa m c] w fun e w' => e = .returned (.tuple #[.pointer none, .int .i64 5]) ∧ w = w' := by
  go_enter Tryz.func38, Tryz.ntmps38
  go_wp2
  go_ret2
  exact ⟨rfl, rfl⟩

/-! ### Words -/
def WordsPost (w : World) (ws : List Int) (e : Ending) (w' : World) : Prop :=
  ∃ g, e = .returned (.slice (some ⟨g, 0, none⟩) ws.length ws.length) ∧ w'.rowIs g 37 ws.length (fun j => .int .u32 (ws.getD j 0)) ∧ w.heap.size ≤ g ∧ Wrote Nil w w'
def mixV (ws : List Int) (k : Nat) (j : Nat) : Value := if j < k then .int .u32 (ws.getD j 0) else .int .u32 0

end Go.Proofs.YteokghghpmppnaaGreatDoor
