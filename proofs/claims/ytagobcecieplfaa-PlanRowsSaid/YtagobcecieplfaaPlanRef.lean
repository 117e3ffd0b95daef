/- The contract of the reference's Row: a plan is two lists, which grow by as many words. -/
import Derived.Test.YtagobcecieplfaaPlan
import Derived.Laws.ResultCell
namespace Go.Proofs.Ytagobcecieplfaa
open Go.RowKit
set_option linter.unusedVariables false

/-- how many words the reference's row has -/
def refN (n : Int) : Nat := (min n 4097).toNat
theorem refN_eq (n : Int) : refN n = rowN n := by unfold refN rowN; omega

/-- the two lists behind k words: what there is now, what may have turned -/
structure LiSt (w : World) (hv vv : Value) (hs vs : List Int) (home v : Int) (k : Nat) (hv' vv' : Value) (w' : World) : Prop where
  obj : w'.heap[w.heap.size]? = some (.cells #[hv', vv'] 29 (0, 0))
  out : w'.heap[w.heap.size + 1]? = some (.cells #[.slice none 0 0, .slice none 0 0] 29 (0, 0))
  rows : TwoAt w' hv' vv' (hs.length + k) (hs.length + k) (hs ++ List.replicate k home) (vs ++ List.replicate k v)
  wrote : Wrote (TF hv vv) w w'
  came : Came w (TF hv vv) (TF hv' vv')
  low : ∀ b, TF hv' vv' b → b ≠ w.heap.size ∧ b ≠ w.heap.size + 1

def RrowPost (w : World) (hv vv : Value) (hs vs : List Int) (home v : Int) (k : Nat) (e : Ending) (w' : World) : Prop :=
  ∃ hv' vv', e = .returned (.tuple #[.agg #[hv', vv'], .int .i64 (hs.length : Nat)]) ∧ TwoAt w' hv' vv' (hs.length + k) (hs.length + k) (hs ++ List.replicate k home) (vs ++ List.replicate k v) ∧ Wrote (TF hv vv) w w' ∧ Came w (TF hv vv) (TF hv' vv')

theorem li_begin {w : World} {hv vv : Value} {hs vs : List Int} (h : TwoAt w hv vv hs.length hs.length hs vs) (home v : Int) :
    LiSt w hv vv hs vs home v 0 hv vv ((w.alloc (.cells #[hv, vv] 29)).alloc (.cells #[.slice none 0 0, .slice none 0 0] 29)) := by
  have hW : Wrote Nil w ((w.alloc (.cells #[hv, vv] 29)).alloc (.cells #[.slice none 0 0, .slice none 0 0] 29)) := ((Wrote.refl _ _).alloc _).alloc _
  refine ⟨?_, ?_, by simpa using h.after hW, hW.mono fun _ _ x => x.elim, Came.refl _ _, fun b hb => ?_⟩
  · rw [Go.Deep.blk_alloc_lt _ _ _ (by rw [Go.Deep.nblk_alloc]; omega), Go.Deep.blk_alloc_new]
  · rw [show w.heap.size + 1 = (w.alloc (.cells #[hv, vv] 29)).heap.size from (Go.Deep.nblk_alloc _ _).symm, Go.Deep.blk_alloc_new]
  · have := h.lt hb
    omega

theorem li_step {w wr w1 w2 : World} {hv vv hv' vv' h2 v2 : Value} {home v : Int} {hs vs : List Int} {k : Nat} (S : LiSt w hv vv hs vs home v k hv' vv' wr)
    (r2 : Wrote (PF w.heap.size hv' vv') wr w1) (r3 : Came wr (TF hv' vv') (TF h2 vv')) (s1 : TwoAt w2 h2 v2 (hs.length + k + 1) (hs.length + k + 1) (hs ++ List.replicate k home ++ [home]) (vs ++ List.replicate k v ++ [v]))
    (s2 : Wrote (PF w.heap.size h2 vv') w1 w2) (s3 : Came w1 (TF h2 vv') (TF h2 v2))
    (s4 : w2.heap[w.heap.size]? = some (.cells #[h2, vv'] 29 (0, 0))) (s5 : ¬ TF h2 v2 w.heap.size) :
    LiSt w hv vv hs vs home v (k + 1) h2 v2 (w2.setCell ⟨w.heap.size, 1, none⟩ v2) := by
  have hsz := blk_lt S.out
  have hc3 := r3.trans s3 r2.size
  have hW : Wrote (PF w.heap.size hv' vv') wr (w2.setCell ⟨w.heap.size, 1, none⟩ v2) := (wrote_came r2 s2 (came_pf r3)).setCell _ _ fun _ => .inl rfl
  refine ⟨?_, ?_, ?_, S.wrote.trans hW fun b hb x => ?_, S.came.trans hc3 S.wrote.size, fun b hb => ⟨fun e => s5 (e ▸ hb), fun e => ?_⟩⟩
  · rw [blk_setCell s4]
    rfl
  · rw [hW.block _ hsz (fun x => ?_)]
    · exact S.out
    · rcases x with x | x
      · omega
      · exact (S.low _ x).2 rfl
  · rw [rep_more, rep_more] at s1
    exact s1.wrote (S := One w.heap.size) ((Wrote.refl _ _).setCell _ _ fun _ => rfl) fun b hb e => s5 (by cases e; exact hb)
  · rcases x with x | x
    · omega
    · exact (S.came b x).elim id fun y => absurd hb (by omega)
  · rcases hc3 b hb with x | x
    · exact (S.low b x).2 e
    · omega

theorem li_end {w wr : World} {hv vv hv' vv' : Value} {home v : Int} {hs vs : List Int} {k : Nat} (S : LiSt w hv vv hs vs home v k hv' vv' wr) {w3 : World} (hW : Wrote (One (w.heap.size + 1)) wr w3) :
    RrowPost w hv vv hs vs home v k (.returned (.tuple #[.agg #[hv', vv'], .int .i64 (hs.length : Nat)])) w3 :=
  ⟨hv', vv', rfl, S.rows.wrote hW fun b hb e => (S.low b hb).2 e, S.wrote.trans hW fun b hb e => by have e' : b = w.heap.size + 1 := e; omega, S.came⟩

/-- a row in the middle of the reference's loop -/
structure LiGo (w : World) (hv vv : Value) (hs vs : List Int) (home v : Int) (k : Nat) (wr : World) : Prop where
  ex : ∃ so cp sv cv, LiSt w hv vv hs vs home v k (.slice so (hs.length + k) cp) (.slice sv (hs.length + k) cv) wr
theorem LiSt.go {w wr : World} {hv vv hv' vv' : Value} {home v : Int} {hs vs : List Int} {k : Nat} (S : LiSt w hv vv hs vs home v k hv' vv' wr) : LiGo w hv vv hs vs home v k wr := by
  obtain ⟨so, cp, rfl⟩ := own_form S.rows.homes
  obtain ⟨sv, cv, rfl⟩ := own_form S.rows.values
  exact ⟨⟨so, cp, sv, cv, S⟩⟩

theorem refN_way (n : Int) : 4096 < n ∧ refN n = 4097 ∨ n ≤ 4096 ∧ ∀ k : Nat, (k < refN n → (k : Int) < n) ∧ (¬ k < refN n → ¬ (k : Int) < n) := by
  by_cases h : 4096 < n
  · exact .inl ⟨h, by unfold refN; omega⟩
  · exact .inr ⟨by omega, fun k => ⟨fun hk => by unfold refN at hk; omega, fun hk => by unfold refN at hk; omega⟩⟩

set_option maxRecDepth 100000 in
set_option maxHeartbeats 2000000 in
theorem rrow_any {w : World} {hv vv : Value} {hs vs : List Int} (h : TwoAt w hv vv hs.length hs.length hs vs) (n home v : Int) (hL : hs.length ≤ 900000) :
    Calls Try.prog 7 #[.agg #[hv, vv], .int .i64 n, .int .i64 home, .int .u32 v] w (RrowPost w hv vv hs vs home v (refN n)) := by
  obtain ⟨i0, hi, hz0, hz1, hz2⟩ := info_parts info_int
  obtain ⟨i1, gi, gz0, gz1, gz2⟩ := info_parts info_u32
  obtain ⟨so, cp, rfl⟩ := own_form h.homes
  obtain ⟨sv, cv, rfl⟩ := own_form h.values
  have hb := (li_begin h home v).go
  have hK2 : refN n ≤ 4097 := by unfold refN; omega
  rcases refN_way n with ⟨hn, hK⟩ | ⟨hn, hK⟩
  · rw [hK]
    have HB := Lib.hid hb
    clear hb h
    go_enter Try.func7, Try.ntmps7
    go_wp2
    go_loopw [11] (fun i wr => ∃ k : Nat, k ≤ 4097 ∧ i = .int .i64 k ∧ LiGo w (.slice so hs.length cp) (.slice sv hs.length cv) hs vs home v k wr) (fun i _ => 4097 - (intOf i).toNat)
    case atStart => exact ⟨0, Nat.zero_le _, rfl, HB.out⟩
    case round =>
      obtain ⟨k, hk, rfl, hG⟩ := hrel
      by_cases hlt : k < 4097
      · skip
        obtain ⟨⟨so1, cp1, sv1, cv1, S⟩⟩ := hG
        have c0 := (blk_cell S.obj 0).trans rfl
        have c1 := (blk_cell S.obj 1).trans rfl
        have f0 := blk_frozen S.obj 0
        have f1 := blk_frozen S.obj 1
        have hp : ¬ TF (.slice so1 (hs.length + k) cp1) (.slice sv1 (hs.length + k) cv1) w.heap.size := fun e => (S.low _ e).1 rfl
        have hq := blk_lt S.obj
        have own1 : ∀ o, (wr.alloc o).ownsRow 0 3 1 (.slice so1 (hs.length + k) cp1) (hs.length + k) ((hs ++ List.replicate k home).map (Value.int .i64)) := fun o => (S.rows.ahead (Wrote.refl (One w.heap.size) _) hp o).homes
        have kH := fun (o : Obj) (hv' : Value) (w1 : World) g1 g2 g3 => S.rows.grewH (A := wr) (o := o) (hv' := hv') (w1 := w1) (x := home) (Wrote.refl (One w.heap.size) _) hp hq g1 g2 g3
        have HS := Lib.hid S
        have HO := Lib.hid S.obj
        have hml : hs.length + k + 1 ≤ maxLen := by unfold maxLen; omega
        generalize hm : hs.length + k = m at c0 c1 own1 kH hml HO
        have HM := Lib.hid hm
        have hm9 : m ≤ 1000000 := by omega
        clear S hm hp hq
        go_wp2_with (first
          | (at_builtin; refine wpList_append_own_at _ rfl (.tmp 23) (.tmp 25) 26 rfl 0 3 i0 (.int .i64 0) 1 8 Try.underlying26 hi hz0 hz1 hz2 rfl (by decide) _ m _ rfl (own1 _) _ 1 1 [.int .i64 home] rfl rfl (one_new _ _ _ _ rfl) (by simp [Value.oneCell']) hml (by omega) (Nat.zero_le _) ?_; intro hv' w1 g1 g2 _ g3; obtain ⟨so2, cp2, rfl⟩ := own_form g1; obtain ⟨r1, r2, r3, r4, r5⟩ := kH _ _ _ g1 g2 g3; rw [HO.out] at r4; clear kH own1 g1 g2 g3; have e0 := (blk_cell r4 0).trans rfl; have e1 := (blk_cell r4 1).trans rfl; have f2 := blk_frozen r4 0; have f3 := blk_frozen r4 1; have hq1 := blk_lt r4; have hWB : Wrote (One w.heap.size) w1 (w1.setCell ⟨w.heap.size, 0, none⟩ (.slice so2 (m + 1) cp2)) := (Wrote.refl _ _).setCell _ _ fun _ => rfl; have own2 : ∀ o, ((w1.setCell ⟨w.heap.size, 0, none⟩ (.slice so2 (m + 1) cp2)).alloc o).ownsRow 0 30 1 (.slice sv1 m cv1) m ((vs ++ List.replicate k v).map (Value.int .u32)) := fun o => (r1.ahead hWB r5 o).values; have kV := fun (o : Obj) (vv' : Value) (w2 : World) g1 g2 g3 => r1.grewV (A := w1.setCell ⟨w.heap.size, 0, none⟩ (.slice so2 (m + 1) cp2)) (o := o) (vv' := vv') (w1 := w2) (x := v) hWB r5 hq1 g1 g2 g3; have R := Lib.hid (And.intro r2 (And.intro r3 r4)); clear r1 r2 r3 r4 r5 hWB)
          | (at_builtin; refine wpList_append_own_at _ rfl (.tmp 29) (.tmp 31) 27 rfl 0 30 i1 (.int .u32 0) 1 4 Try.underlying27 gi gz0 gz1 gz2 rfl (by decide) _ m _ rfl (own2 _) _ 1 1 [.int .u32 v] rfl rfl (one_new _ _ _ _ (Go.Deep.nblk_setCell _ _ _).symm) (by simp [Value.oneCell']) hml (by omega) (Nat.zero_le _) ?_; intro vv' w2 g1 g2 _ g3; obtain ⟨sv2, cv2, rfl⟩ := own_form g1; obtain ⟨s1, s2, s3, s4, s5⟩ := kV _ _ _ g1 g2 g3; rw [blk_setCell R.out.2.2] at s4; clear kV own2 g1 g2 g3; have e4 := (blk_cell s4 1).trans rfl; have f4 := blk_frozen s4 1; have T := Lib.hid (And.intro s1 (And.intro s2 (And.intro s3 (And.intro s4 s5)))); clear s1 s2 s3 s4 s5))
        go_roundw
        case rel =>
          obtain ⟨s1, s2, s3, s4, s5⟩ := T.out
          obtain ⟨r2, r3, _⟩ := R.out
          obtain rfl := HM.out
          exact ⟨k + 1, by omega, by go_num, (li_step HS.out r2 r3 s1 s2 s3 s4 s5).go⟩
        case measure => simp [intOf]; omega
      · skip
        obtain rfl : k = 4097 := by omega
        obtain ⟨⟨so1, cp1, sv1, cv1, S⟩⟩ := hG
        have c0 := (blk_cell S.obj 0).trans rfl
        have c1 := (blk_cell S.obj 1).trans rfl
        have d0 := (blk_cell S.out 0).trans rfl
        have d1 := (blk_cell S.out 1).trans rfl
        have f0 := blk_frozen S.out 0
        have f1 := blk_frozen S.out 1
        have HS := Lib.hid S
        clear S
        go_wp2
        (try simp only [Exit.inBlock, Exit.then])
        have hW3 : Wrote (One (w.heap.size + 1)) wr ((wr.setCell ⟨w.heap.size + 1, 0, none⟩ (.slice so1 (hs.length + 4097) cp1)).setCell ⟨w.heap.size + 1, 1, none⟩ (.slice sv1 (hs.length + 4097) cv1)) := ((Wrote.refl (One (w.heap.size + 1)) wr).setCell ⟨w.heap.size + 1, 0, none⟩ _ fun _ => rfl).setCell ⟨w.heap.size + 1, 1, none⟩ _ fun _ => rfl
        have e0 : ((wr.setCell ⟨w.heap.size + 1, 0, none⟩ (.slice so1 (hs.length + 4097) cp1)).setCell ⟨w.heap.size + 1, 1, none⟩ (.slice sv1 (hs.length + 4097) cv1)).cell? ⟨w.heap.size + 1, 0, none⟩ = some (.slice so1 (hs.length + 4097) cp1) := by
          rw [World.cell?_setCell_other _ _ _ _ (by simp)]
          exact World.cell?_setCell_same _ _ _ d0
        have e1 : ((wr.setCell ⟨w.heap.size + 1, 0, none⟩ (.slice so1 (hs.length + 4097) cp1)).setCell ⟨w.heap.size + 1, 1, none⟩ (.slice sv1 (hs.length + 4097) cv1)).cell? ⟨w.heap.size + 1, 1, none⟩ = some (.slice sv1 (hs.length + 4097) cv1) := by
          exact World.cell?_setCell_same _ _ _ (by rw [World.cell?_setCell_other _ _ _ _ (by simp)]; exact d1)
        generalize ((wr.setCell ⟨w.heap.size + 1, 0, none⟩ (.slice so1 (hs.length + 4097) cp1)).setCell ⟨w.heap.size + 1, 1, none⟩ (.slice sv1 (hs.length + 4097) cv1)) = W at hW3 e0 e1 ⊢
        refine bodyPost_ret (v := .tuple #[.agg #[.slice so1 (hs.length + 4097) cp1, .slice sv1 (hs.length + 4097) cv1], .int .i64 (hs.length : Nat)]) ?_ rfl (li_end HS.out hW3)
        rw [results_cell_tmp rfl]
        go_simp
  · generalize refN n = K at hK hK2 ⊢
    have HB := Lib.hid hb
    clear hb h
    go_enter Try.func7, Try.ntmps7
    go_wp2
    go_loopw [11] (fun i wr => ∃ k : Nat, k ≤ K ∧ i = .int .i64 k ∧ LiGo w (.slice so hs.length cp) (.slice sv hs.length cv) hs vs home v k wr) (fun i _ => K - (intOf i).toNat)
    case atStart => exact ⟨0, Nat.zero_le _, rfl, HB.out⟩
    case round =>
      obtain ⟨k, hk, rfl, hG⟩ := hrel
      have hW := hK k
      by_cases hlt : k < K
      · have hlt2 := hW.1 hlt
        obtain ⟨⟨so1, cp1, sv1, cv1, S⟩⟩ := hG
        have c0 := (blk_cell S.obj 0).trans rfl
        have c1 := (blk_cell S.obj 1).trans rfl
        have f0 := blk_frozen S.obj 0
        have f1 := blk_frozen S.obj 1
        have hp : ¬ TF (.slice so1 (hs.length + k) cp1) (.slice sv1 (hs.length + k) cv1) w.heap.size := fun e => (S.low _ e).1 rfl
        have hq := blk_lt S.obj
        have own1 : ∀ o, (wr.alloc o).ownsRow 0 3 1 (.slice so1 (hs.length + k) cp1) (hs.length + k) ((hs ++ List.replicate k home).map (Value.int .i64)) := fun o => (S.rows.ahead (Wrote.refl (One w.heap.size) _) hp o).homes
        have kH := fun (o : Obj) (hv' : Value) (w1 : World) g1 g2 g3 => S.rows.grewH (A := wr) (o := o) (hv' := hv') (w1 := w1) (x := home) (Wrote.refl (One w.heap.size) _) hp hq g1 g2 g3
        have HS := Lib.hid S
        have HO := Lib.hid S.obj
        have hml : hs.length + k + 1 ≤ maxLen := by unfold maxLen; omega
        generalize hm : hs.length + k = m at c0 c1 own1 kH hml HO
        have HM := Lib.hid hm
        have hm9 : m ≤ 1000000 := by omega
        clear S hm hp hq
        go_wp2_with (first
          | (at_builtin; refine wpList_append_own_at _ rfl (.tmp 23) (.tmp 25) 26 rfl 0 3 i0 (.int .i64 0) 1 8 Try.underlying26 hi hz0 hz1 hz2 rfl (by decide) _ m _ rfl (own1 _) _ 1 1 [.int .i64 home] rfl rfl (one_new _ _ _ _ rfl) (by simp [Value.oneCell']) hml (by omega) (Nat.zero_le _) ?_; intro hv' w1 g1 g2 _ g3; obtain ⟨so2, cp2, rfl⟩ := own_form g1; obtain ⟨r1, r2, r3, r4, r5⟩ := kH _ _ _ g1 g2 g3; rw [HO.out] at r4; clear kH own1 g1 g2 g3; have e0 := (blk_cell r4 0).trans rfl; have e1 := (blk_cell r4 1).trans rfl; have f2 := blk_frozen r4 0; have f3 := blk_frozen r4 1; have hq1 := blk_lt r4; have hWB : Wrote (One w.heap.size) w1 (w1.setCell ⟨w.heap.size, 0, none⟩ (.slice so2 (m + 1) cp2)) := (Wrote.refl _ _).setCell _ _ fun _ => rfl; have own2 : ∀ o, ((w1.setCell ⟨w.heap.size, 0, none⟩ (.slice so2 (m + 1) cp2)).alloc o).ownsRow 0 30 1 (.slice sv1 m cv1) m ((vs ++ List.replicate k v).map (Value.int .u32)) := fun o => (r1.ahead hWB r5 o).values; have kV := fun (o : Obj) (vv' : Value) (w2 : World) g1 g2 g3 => r1.grewV (A := w1.setCell ⟨w.heap.size, 0, none⟩ (.slice so2 (m + 1) cp2)) (o := o) (vv' := vv') (w1 := w2) (x := v) hWB r5 hq1 g1 g2 g3; have R := Lib.hid (And.intro r2 (And.intro r3 r4)); clear r1 r2 r3 r4 r5 hWB)
          | (at_builtin; refine wpList_append_own_at _ rfl (.tmp 29) (.tmp 31) 27 rfl 0 30 i1 (.int .u32 0) 1 4 Try.underlying27 gi gz0 gz1 gz2 rfl (by decide) _ m _ rfl (own2 _) _ 1 1 [.int .u32 v] rfl rfl (one_new _ _ _ _ (Go.Deep.nblk_setCell _ _ _).symm) (by simp [Value.oneCell']) hml (by omega) (Nat.zero_le _) ?_; intro vv' w2 g1 g2 _ g3; obtain ⟨sv2, cv2, rfl⟩ := own_form g1; obtain ⟨s1, s2, s3, s4, s5⟩ := kV _ _ _ g1 g2 g3; rw [blk_setCell R.out.2.2] at s4; clear kV own2 g1 g2 g3; have e4 := (blk_cell s4 1).trans rfl; have f4 := blk_frozen s4 1; have T := Lib.hid (And.intro s1 (And.intro s2 (And.intro s3 (And.intro s4 s5)))); clear s1 s2 s3 s4 s5))
        go_roundw
        case rel =>
          obtain ⟨s1, s2, s3, s4, s5⟩ := T.out
          obtain ⟨r2, r3, _⟩ := R.out
          obtain rfl := HM.out
          exact ⟨k + 1, by omega, by go_num, (li_step HS.out r2 r3 s1 s2 s3 s4 s5).go⟩
        case measure => simp [intOf]; omega
      · have hlt2 := hW.2 hlt
        obtain rfl : k = K := by omega
        obtain ⟨⟨so1, cp1, sv1, cv1, S⟩⟩ := hG
        have c0 := (blk_cell S.obj 0).trans rfl
        have c1 := (blk_cell S.obj 1).trans rfl
        have d0 := (blk_cell S.out 0).trans rfl
        have d1 := (blk_cell S.out 1).trans rfl
        have f0 := blk_frozen S.out 0
        have f1 := blk_frozen S.out 1
        have HS := Lib.hid S
        clear S
        go_wp2
        (try simp only [Exit.inBlock, Exit.then])
        have hW3 : Wrote (One (w.heap.size + 1)) wr ((wr.setCell ⟨w.heap.size + 1, 0, none⟩ (.slice so1 (hs.length + k) cp1)).setCell ⟨w.heap.size + 1, 1, none⟩ (.slice sv1 (hs.length + k) cv1)) := ((Wrote.refl (One (w.heap.size + 1)) wr).setCell ⟨w.heap.size + 1, 0, none⟩ _ fun _ => rfl).setCell ⟨w.heap.size + 1, 1, none⟩ _ fun _ => rfl
        have e0 : ((wr.setCell ⟨w.heap.size + 1, 0, none⟩ (.slice so1 (hs.length + k) cp1)).setCell ⟨w.heap.size + 1, 1, none⟩ (.slice sv1 (hs.length + k) cv1)).cell? ⟨w.heap.size + 1, 0, none⟩ = some (.slice so1 (hs.length + k) cp1) := by
          rw [World.cell?_setCell_other _ _ _ _ (by simp)]
          exact World.cell?_setCell_same _ _ _ d0
        have e1 : ((wr.setCell ⟨w.heap.size + 1, 0, none⟩ (.slice so1 (hs.length + k) cp1)).setCell ⟨w.heap.size + 1, 1, none⟩ (.slice sv1 (hs.length + k) cv1)).cell? ⟨w.heap.size + 1, 1, none⟩ = some (.slice sv1 (hs.length + k) cv1) := by
          exact World.cell?_setCell_same _ _ _ (by rw [World.cell?_setCell_other _ _ _ _ (by simp)]; exact d1)
        generalize ((wr.setCell ⟨w.heap.size + 1, 0, none⟩ (.slice so1 (hs.length + k) cp1)).setCell ⟨w.heap.size + 1, 1, none⟩ (.slice sv1 (hs.length + k) cv1)) = W at hW3 e0 e1 ⊢
        refine bodyPost_ret (v := .tuple #[.agg #[.slice so1 (hs.length + k) cp1, .slice sv1 (hs.length + k) cv1], .int .i64 (hs.length : Nat)]) ?_ rfl (li_end HS.out hW3)
        rw [results_cell_tmp rfl]
        go_simp
end Go.Proofs.Ytagobcecieplfaa
