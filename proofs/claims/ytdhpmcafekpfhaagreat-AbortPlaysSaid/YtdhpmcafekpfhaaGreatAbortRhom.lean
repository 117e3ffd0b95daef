/- The homes of the reference's abortable lock's words. -/
import Derived.Test.YtdhpmcafekpfhaaGreatAbortRall
import Derived.Test.YtdhpmcafekpfhaaGreatGrow
import Derived.BigRegion
import Derived.Deep.Cut
import Derived.Deep.CutBlock
import Derived.Deep.CutRange
import Derived.Deep.RegionWith
namespace Go.Proofs.YtdhpmcafekpfhaaGreat
open Go.RowKit Go.BigFrame
set_option linter.unusedVariables false
set_option maxRecDepth 100000

/-! ### rows that are made beside one another, in whatever order -/
/-- n zeros -/
abbrev zrow (n : Nat) : Array Value := rowA n (inV fun _ => 0)
structure MkS (n : Nat) (w X : World) (bs : List Nat) : Prop where
  wr : Wrote Nil w X
  all : ∀ b ∈ bs, w.heap.size ≤ b ∧ X.heap[b]? = some (.cells (zrow n) 3 (0, 0))
  nd : bs.Nodup
namespace MkS
variable {n : Nat} {w X Y : World} {bs : List Nat} {A : Array Value}
theorem start (n : Nat) (w : World) : MkS n w w [] := ⟨Wrote.refl _ w, fun b hb => by simp at hb, List.nodup_nil⟩
theorem old (h : MkS n w X bs) (k : Wrote Nil X Y) : MkS n w Y bs := ⟨h.wr.nil k, fun b hb => ⟨(h.all b hb).1, (k.block _ (blk_lt (h.all b hb).2) id).trans (h.all b hb).2⟩, h.nd⟩
theorem drew (h : MkS n w X bs) : MkS n w X.drew bs := h.old ((Wrote.refl _ X).drew)
theorem alloc (hA : zrow n = A) (h : MkS n w X bs) : MkS n w (X.alloc (.cells A 3)) (X.heap.size :: bs) := by
  subst hA
  have k : Wrote Nil X (X.alloc (.cells (zrow n) 3)) := (Wrote.refl _ X).alloc _
  refine ⟨h.wr.nil k, fun b hb => ?_, List.nodup_cons.2 ⟨fun q => by have := blk_lt (h.all _ q).2; omega, h.nd⟩⟩
  rcases List.mem_cons.1 hb with rfl | hb
  · exact ⟨h.wr.size, Go.Deep.blk_alloc_new _ _⟩
  · exact (h.old k).all b hb
end MkS
theorem nblk_drew (w : World) : w.drew.heap.size = w.heap.size := rfl
/-- and the seats -/
structure MkT (n : Nat) (s : SS) (w X : World) (bs : List Nat) (r : Nat) (hv dv : Value) : Prop where
  ms : MkS n w X bs
  seat : RsAt X r hv dv s
  off : ∀ k, SF r hv dv k → w.heap.size ≤ k ∧ k ∉ bs
namespace MkT
variable {n : Nat} {s : SS} {w X Y : World} {bs : List Nat} {A : Array Value} {r : Nat} {hv dv : Value}
theorem old (h : MkT n s w X bs r hv dv) (k : Wrote Nil X Y) : MkT n s w Y bs r hv dv := ⟨h.ms.old k, h.seat.wrote k fun _ _ => id, h.off⟩
theorem drew (h : MkT n s w X bs r hv dv) : MkT n s w X.drew bs r hv dv := h.old ((Wrote.refl _ X).drew)
theorem alloc (hA : zrow n = A) (h : MkT n s w X bs r hv dv) : MkT n s w (X.alloc (.cells A 3)) (X.heap.size :: bs) r hv dv := by
  have k : Wrote Nil X (X.alloc (.cells A 3)) := (Wrote.refl _ X).alloc _
  refine ⟨h.ms.alloc hA, h.seat.wrote k fun _ _ => id, fun j hj => ⟨(h.off j hj).1, fun q => ?_⟩⟩
  rcases List.mem_cons.1 q with e | q
  · have := SrAt.lt h.seat hj; omega
  · exact (h.off j hj).2 q
theorem call (h : MkS n w X bs) (hS : RsAt Y r hv dv s) (hn : ∀ k, SF r hv dv k → X.heap.size ≤ k) (k : Wrote Nil X Y) : MkT n s w Y bs r hv dv :=
  ⟨h.old k, hS, fun j hj => ⟨Nat.le_trans h.wr.size (hn j hj), fun q => by have := blk_lt (h.all j q).2; have := hn j hj; omega⟩⟩
end MkT

/-! ### a lock in the making -/
structure RnSt (w X : World) (n ea : Nat) (a : Int) (rb r b1 b2 b3 : Nat) (hv dv : Value) (k : Nat) (v : Value) : Prop where
  obj : X.heap[rb]? = some (.cells #[.pointer (some ⟨r, 0, none⟩), .int .i64 a, .int .i64 (ea : Nat), v, .slice (some ⟨b1, 0, none⟩) n n, .slice (some ⟨b2, 0, none⟩) n n, .slice (some ⟨b3, 0, none⟩) n n] 80 (0, 0))
  mt : MkT n (newSeat n true false) w X [b1, b2, b3] r hv dv
  lt : w.heap.size ≤ rb ∧ b1 < rb ∧ b2 < rb ∧ b3 < rb ∧ ∀ j, SF r hv dv j → j < rb
  own : X.ownsRow (rb + 1) 3 1 v k ((List.range k).map fun _ => Value.int .i64 1)
theorem RnSt.start {w X : World} {n ea : Nat} {a : Int} {r b1 b2 b3 : Nat} {bs : List Nat} {hv dv : Value} (h : MkT n (newSeat n true false) w X bs r hv dv) (e1 : b1 ∈ bs) (e2 : b2 ∈ bs) (e3 : b3 ∈ bs) (n12 : b1 ≠ b2) (n13 : b1 ≠ b3) (n23 : b2 ≠ b3) :
    RnSt w (X.alloc (.cells #[.pointer (some ⟨r, 0, none⟩), .int .i64 a, .int .i64 (ea : Nat), .slice none 0 0, .slice (some ⟨b1, 0, none⟩) n n, .slice (some ⟨b2, 0, none⟩) n n, .slice (some ⟨b3, 0, none⟩) n n] 80)) n ea a X.heap.size r b1 b2 b3 hv dv 0 (.slice none 0 0) := by
  have k := (Wrote.refl Nil X).alloc (.cells #[.pointer (some ⟨r, 0, none⟩), .int .i64 a, .int .i64 (ea : Nat), .slice none 0 0, .slice (some ⟨b1, 0, none⟩) n n, .slice (some ⟨b2, 0, none⟩) n n, .slice (some ⟨b3, 0, none⟩) n n] 80)
  have hk := h.old k
  have l1 := blk_lt (h.ms.all _ e1).2
  have l2 := blk_lt (h.ms.all _ e2).2
  have l3 := blk_lt (h.ms.all _ e3).2
  refine ⟨Go.Deep.blk_alloc_new _ _, ⟨⟨hk.ms.wr, fun b hb => ?_, ?_⟩, hk.seat, fun j hj => ⟨(h.off j hj).1, fun q => ?_⟩⟩, ⟨h.ms.wr.size, l1, l2, l3, fun j hj => SrAt.lt h.seat hj⟩, World.ownsRow_nil _ _ _ _⟩
  · simp only [List.mem_cons, List.not_mem_nil, or_false] at hb
    rcases hb with rfl | rfl | rfl
    · exact hk.ms.all _ e1
    · exact hk.ms.all _ e2
    · exact hk.ms.all _ e3
  · simp [n12, n13, n23]
  · simp only [List.mem_cons, List.not_mem_nil, or_false] at q
    rcases q with rfl | rfl | rfl
    · exact (h.off _ hj).2 e1
    · exact (h.off _ hj).2 e2
    · exact (h.off _ hj).2 e3
theorem RnSt.start' {w X : World} {n ea : Nat} {a : Int} {rb r b1 b2 b3 : Nat} {bs : List Nat} {hv dv : Value} (hb : X.heap.size = rb) (h : MkT n (newSeat n true false) w X bs r hv dv) (e1 : b1 ∈ bs) (e2 : b2 ∈ bs) (e3 : b3 ∈ bs) (n12 : b1 ≠ b2) (n13 : b1 ≠ b3) (n23 : b2 ≠ b3) :
    RnSt w (X.alloc (.cells #[.pointer (some ⟨r, 0, none⟩), .int .i64 a, .int .i64 (ea : Nat), .slice none 0 0, .slice (some ⟨b1, 0, none⟩) n n, .slice (some ⟨b2, 0, none⟩) n n, .slice (some ⟨b3, 0, none⟩) n n] 80)) n ea a rb r b1 b2 b3 hv dv 0 (.slice none 0 0) := by
  subst hb; exact RnSt.start h e1 e2 e3 n12 n13 n23
theorem RnSt.meet {w X : World} {n ea : Nat} {a : Int} {rb r b1 b2 b3 : Nat} {bs : List Nat} {hv dv : Value} (hb : X.heap.size = rb) (h : MkT n (newSeat n true false) w X bs r hv dv) (e1 : b1 ∈ bs) (e2 : b2 ∈ bs) (e3 : b3 ∈ bs) (n12 : b1 ≠ b2) (n13 : b1 ≠ b3) (n23 : b2 ≠ b3) :
    ∃ (rb' r' b1' b2' b3' : Nat) (hv' dv' : Value), Value.pointer (some ⟨rb, 0, none⟩) = .pointer (some ⟨rb', 0, none⟩) ∧ RnSt w (X.alloc (.cells #[.pointer (some ⟨r, 0, none⟩), .int .i64 a, .int .i64 (ea : Nat), .slice none 0 0, .slice (some ⟨b1, 0, none⟩) n n, .slice (some ⟨b2, 0, none⟩) n n, .slice (some ⟨b3, 0, none⟩) n n] 80)) n ea a rb' r' b1' b2' b3' hv' dv' 0 (.slice none 0 0) :=
  ⟨rb, r, b1, b2, b3, hv, dv, rfl, RnSt.start' hb h e1 e2 e3 n12 n13 n23⟩
theorem RnSt.after {w X Y : World} {n ea : Nat} {a : Int} {rb r b1 b2 b3 : Nat} {hv dv : Value} {k : Nat} {v : Value} (h : RnSt w X n ea a rb r b1 b2 b3 hv dv k v) (q : Wrote Nil X Y) : RnSt w Y n ea a rb r b1 b2 b3 hv dv k v :=
  ⟨(q.block _ (blk_lt h.obj) id).trans h.obj, h.mt.old q, h.lt, ownsRow_keep h.own fun j hj => q.block j (h.own.lt j hj).2 id⟩
theorem RnSt.next {w X Y : World} {n ea : Nat} {a : Int} {rb r b1 b2 b3 : Nat} {hv dv : Value} {k : Nat} {v v' : Value} (h : RnSt w X n ea a rb r b1 b2 b3 hv dv k v) (ho : Y.ownsRow (rb + 1) 3 1 v' (k + 1) ((List.range k).map (fun _ => Value.int .i64 1) ++ [.int .i64 1])) (hg : X.grownBy Y v.ownBlock) :
    RnSt w (Y.setCell ⟨rb, 3, none⟩ v') n ea a rb r b1 b2 b3 hv dv (k + 1) v' := by
  have hl := h.lt
  have k1 : Wrote (fun j => v.ownBlock = some j) X Y := (Wrote.refl _ X).grown hg fun j hj _ => hj
  have hv0 : ∀ j, v.ownBlock = some j → rb + 1 ≤ j := fun j hj => (h.own.lt j hj).1
  have hlb := blk_lt h.obj
  have k2 : Wrote (One rb) Y (Y.setCell ⟨rb, 3, none⟩ v') := (Wrote.refl _ Y).setCell _ _ fun _ => rfl
  have kk : Wrote (fun j => rb ≤ j) X (Y.setCell ⟨rb, 3, none⟩ v') := (k1.mono fun b _ e => by have := hv0 b e; omega).trans k2 fun b _ e => by cases e; exact Nat.le_refl _
  have o1 := (k1.block _ hlb fun e => by have := hv0 rb e; omega).trans h.obj
  refine ⟨?_, ⟨⟨h.mt.ms.wr.trans kk fun b hb e => by omega, fun b hb => ⟨(h.mt.ms.all b hb).1, (kk.block _ (blk_lt (h.mt.ms.all b hb).2) fun e => ?_).trans (h.mt.ms.all b hb).2⟩, h.mt.ms.nd⟩, h.mt.seat.wrote kk fun j hj e => by have := hl.2.2.2.2 j hj; omega, h.mt.off⟩, hl, ?_⟩
  · rw [blk_setCell o1]; rfl
  · simp only [List.mem_cons, List.not_mem_nil, or_false] at hb
    rcases hb with rfl | rfl | rfl <;> omega
  · rw [List.range_succ, List.map_append]
    exact ownsRow_keep ho fun j hj => k2.block j (ho.lt j hj).2 fun e => by have := (ho.lt j hj).1; cases e; omega
/-- the rows' blocks -/
def rwF (g b1 b2 b3 : Nat) : Nat → Nat
  | 0 => g
  | 1 => b1
  | 2 => b2
  | _ => b3
def NewMlPost (w : World) (n ea : Nat) (a : Int) (e : Ending) (w' : World) : Prop :=
  ∃ M : Mp, e = .returned (.pointer (some ⟨M.r, 0, none⟩)) ∧ MlRaw w' M (newSeat n true false) ea (fv (newF n ea n)) ∧ M.a = a ∧ M.base = w'.heap.size ∧ (w.heap.size ≤ M.r ∧ ∀ k, MF M k → w.heap.size ≤ k) ∧ Wrote Nil w w'
theorem RnSt.done {w X : World} {n ea : Nat} {a : Int} {rb r b1 b2 b3 : Nat} {hv dv : Value} {v : Value} (n1 : 1 ≤ n) (h : RnSt w X n ea a rb r b1 b2 b3 hv dv n v) : NewMlPost w n ea a (.returned (.pointer (some ⟨rb, 0, none⟩))) X := by
  have hl := h.lt
  obtain ⟨g, cap, cur, rfl, hg, hc, hcap⟩ : ∃ g cap cur, v = .slice (some ⟨g, 0, none⟩) n cap ∧ rb + 1 ≤ g ∧ X.heap[g]? = some (.cells cur 3 (0, 0)) ∧ ∀ k, k < n → cur[k]? = some (Value.int .i64 1) := by
    rcases h.own.2 with ⟨_, e⟩ | ⟨g, cap, cur, e1, e2, e3, e4, e5, e6, e7⟩
    · omega
    · refine ⟨g, cap, cur, e1, e2, e3, fun k hk => ?_⟩
      have : (cur.toList.take (n * 1))[k]? = some (Value.int .i64 1) := by rw [e7, List.getElem?_map, List.getElem?_range hk]; rfl
      rw [List.getElem?_take_of_lt (by omega)] at this
      simpa using this
  have a1 := h.mt.ms.all b1 (by simp)
  have a2 := h.mt.ms.all b2 (by simp)
  have a3 := h.mt.ms.all b3 (by simp)
  have hnd := h.mt.ms.nd
  simp only [List.nodup_cons, List.mem_cons, List.not_mem_nil, or_false, not_or, List.nodup_nil, not_false_eq_true, and_true] at hnd
  have hlg := blk_lt hc
  have hlr := blk_lt h.obj
  have rz : ∀ b, X.heap[b]? = some (.cells (zrow n) 3 (0, 0)) → RowC X b n (fun _ => 0) := fun b hb => ⟨_, hb, fun k hk => rowA_at _ hk⟩
  have cases4 : ∀ i, i < 4 → i = 0 ∨ i = 1 ∨ i = 2 ∨ i = 3 := fun i hi => by omega
  refine ⟨⟨rb, r, hv, dv, rwF g b1 b2 b3, cap, a, 0, X.heap.size⟩, rfl, ⟨h.obj, h.mt.seat, fun i hi => ?_, fun i hi => ⟨?_, fun j hj hij => ?_⟩, fun k hk => ⟨?_, fun i hi => ?_⟩, ⟨hlr, fun i hi => ?_, fun k hk => SrAt.lt h.mt.seat hk⟩⟩, rfl, rfl, ⟨hl.1, fun k hk => ?_⟩, h.mt.ms.wr⟩
  · rcases cases4 i hi with rfl | rfl | rfl | rfl
    · exact ⟨_, hc, fun k hk => by rw [hcap k hk]; rfl⟩
    · exact rz _ a1.2
    · exact rz _ a2.2
    · exact rz _ a3.2
  · rcases cases4 i hi with rfl | rfl | rfl | rfl <;> simp only [rwF] <;> omega
  · rcases cases4 i hi with rfl | rfl | rfl | rfl <;> rcases cases4 j hj with rfl | rfl | rfl | rfl <;> simp only [rwF] <;> first | exact absurd rfl hij | omega
  · have := hl.2.2.2.2 k hk; dsimp only; omega
  · have s1 := hl.2.2.2.2 k hk
    have s2 := (h.mt.off k hk).2
    simp only [List.mem_cons, List.not_mem_nil, or_false, not_or] at s2
    rcases cases4 i hi with rfl | rfl | rfl | rfl <;> simp only [rwF] <;> first | omega | exact s2.1 | exact s2.2.1 | exact s2.2.2
  · rcases cases4 i hi with rfl | rfl | rfl | rfl <;> simp only [rwF] <;> omega
  · rcases hk with ⟨i, hi, rfl⟩ | hk
    · rcases cases4 i hi with rfl | rfl | rfl | rfl <;> simp only [rwF] <;> omega
    · exact (h.mt.off k hk).1
set_option maxHeartbeats 8000000 in
theorem ml_new (n ea : Nat) (n1 : 1 ≤ n) (n2 : n ≤ 64) (a : Int) (w : World) : Calls Tryz.prog 10 #[.int .i64 (n : Int), .int .i64 (ea : Int), .int .i64 a] w (NewMlPost w n ea a) := by
  obtain ⟨i0, hi, hz0, hz1, hz2⟩ := info_parts info_int
  have hmk : ∀ w : World, (Instr.makeSlice 22 (.int .i64 (n : Int)) (.int .i64 (n : Int))).run Tryz.prog w = .ok (.slice (some ⟨w.heap.size, 0, none⟩) n n) (w.alloc (.cells (zrow n) 3)) := by
    intro w
    have h := Go.run_make (P := Tryz.prog) w 22 3 i0 _ Tryz.underlying22 hi hz0 .i64 .i64 n n (by omega) (by omega) (by rw [hz2]; omega) (by omega)
    rw [hz1] at h
    simp only [Int.toNat_natCast] at h
    rw [show madeCells (Value.int .i64 0).cells (n * 1) = rowA n (inV fun _ => 0) from made_row (.int .i64 0) n] at h
    exact h
  generalize hA : zrow n = A at hmk
  have cS := fun W => rs_new n true false n2 W
  have HA := Lib.hid hA
  clear hA
  go_enter Tryz.func10, Tryz.ntmps10
  go_wp2
  go_cut [7] from 9 to 21 (fun v7 wx => ∃ (rb r b1 b2 b3 : Nat) (hv dv : Value), v7 = .pointer (some ⟨rb, 0, none⟩) ∧ RnSt w wx n ea a rb r b1 b2 b3 hv dv 0 (.slice none 0 0))
  case first =>
    go_region_with (go_at_call 25; (with_reducible refine (cS _).mono ?_); intro e w2 hq; unfold RsNewPost at hq; obtain ⟨r, hv, dv, rfl, hR, hnew, hW⟩ := hq; have HR := Lib.hid (And.intro hR (And.intro hnew hW)); clear hR hnew hW cS)
    all_goals
      go_wp2
      go_meet
      have hsz := HR.out.2.2.size
      try simp only [Go.Deep.nblk_alloc, nblk_drew] at hsz
      apply RnSt.meet
      rotate_left
      repeat (first | apply MkT.alloc HA.out | apply MkT.drew)
      apply MkT.call _ HR.out.1 HR.out.2.1 HR.out.2.2
      any_goals (repeat (first | apply MkS.alloc HA.out | apply MkS.drew))
      any_goals exact MkS.start n w
      all_goals first | (simp only [Go.Deep.nblk_alloc, List.mem_cons, true_or, or_true]) | omega
  case rest =>
    obtain ⟨rb, r, b1, b2, b3, hv, dv, rfl, hS⟩ := hcut
    go_wp2
    go_loopw [8] (fun i wr => ∃ (k : Nat) (v : Value), k ≤ n ∧ i = .int .i64 k ∧ RnSt w wr n ea a rb r b1 b2 b3 hv dv k v) (fun i _ => n - (intOf i).toNat)
    case atStart => exact ⟨0, _, Nat.zero_le _, rfl, hS⟩
    case round =>
      clear hS
      obtain ⟨k, v, hk, rfl, hS⟩ := hrel
      by_cases hlt : k < n
      · have HS := Lib.hid hS
        have k1 : Wrote Nil wr (wr.alloc (.cells #[.int .i64 1] 3)) := (Wrote.refl Nil wr).alloc _
        have hown := (hS.after k1).own
        have hb : rb < wr.heap.size := blk_lt hS.obj
        clear hS
        have c3 : wr.cell? ⟨rb, 3, none⟩ = some v := (blk_cell HS.out.obj 3).trans rfl
        go_wp2_with (at_builtin; refine wpList_append_own _ rfl _ _ 22 rfl (rb + 1) 3 i0 (.int .i64 0) 1 8 Tryz.underlying22 hi hz0 hz1 hz2 rfl (by decide) _ _ _ rfl hown ⟨wr.heap.size, 0, none⟩ 1 1 [.int .i64 1] rfl rfl ?c1 ?c2 ?c3 ?c4 ?c5 ?_)
        case c1 =>
          intro j u hj
          match j, hj with
          | 0, hj => simp at hj; subst hj; simp [Addr.add]
        case c2 => intro u hu; simp at hu; subst hu; rfl
        case c3 => unfold maxLen; omega
        case c4 => omega
        case c5 => simp; omega
        · intro v' w1 hown' hgrow _
          obtain ⟨so, cp, rfl⟩ := s_form hown'
          have o1 : w1.heap[rb]? = _ := (((Wrote.refl (fun j => v.ownBlock = some j) _).grown hgrow fun j hj _ => hj).block rb (by have e := Go.Deep.nblk_alloc wr (.cells #[.int .i64 1] 3); omega) (fun e => by have := (hown.lt rb e).1; omega)).trans (HS.out.after k1).obj
          have e1 : w1.cell? ⟨rb, 3, none⟩ = some v := (blk_cell o1 3).trans rfl
          have f1 := blk_frozen o1 3
          have HN := Lib.hid ((HS.out.after k1).next hown' hgrow)
          clear hown' hgrow o1
          go_wp2
          go_roundw
          case rel => exact ⟨k + 1, .slice so (k + 1) cp, by omega, by go_num, HN.out⟩
          case measure => simp [intOf]; omega
      · obtain rfl : k = n := by omega
        go_wp2
        go_ret
        exact RnSt.done n1 hS
end Go.Proofs.YtdhpmcafekpfhaaGreat
namespace Go.Proofs.YtdhpmcafekpfhaaGreat
open Go.RowKit Go.BigFrame
set_option linter.unusedVariables false
set_option maxRecDepth 100000

/-! ### its homes -/
theorem lit_one (w : World) (e : TypeId) (x : Value) : Grow e 1 w w.heap.size (w.alloc (.cells #[x] e)) 1 [x] (.slice (some ⟨w.heap.size, 0, none⟩) 1 1) :=
  ⟨World.ownsRow_lit w #[x] 1 (Nat.le_refl _) (by decide) rfl, (Wrote.refl _ w).alloc _, by rw [Go.Deep.nblk_alloc]; omega, Nat.le_refl _⟩
theorem triH_block (e : Nat) (zs : List Int) (k : Nat) : ∀ j, j ≤ e → triH e zs (k * e + j) = triH e zs (k * e) ++ List.replicate (3 * j) (zs.getD k 0) := by
  intro j
  induction j with
  | zero => intro _; simp
  | succ j ih =>
    intro hj
    have hd : (k * e + j) / e = k := by rw [Nat.add_comm, Nat.add_mul_div_right _ _ (by omega), Nat.div_eq_of_lt (by omega), Nat.zero_add]
    rw [show k * e + (j + 1) = k * e + j + 1 by omega, triH_more, ih (by omega), hd, repz_more, List.append_assoc]
theorem triH_next (e : Nat) (zs : List Int) (k : Nat) : triH e zs ((k + 1) * e) = triH e zs (k * e) ++ List.replicate (3 * e) (zs.getD k 0) := by
  rw [Nat.succ_mul]; exact triH_block e zs k e (Nat.le_refl e)
def HomesNewPost (w : World) (zs : List Int) (n ea : Nat) (e : Ending) (w' : World) : Prop := ∃ g cap, e = .returned (.slice (some ⟨g, 0, none⟩) (3 * (n * ea) + 1) cap) ∧ RowAt .i64 w' (some ⟨g, 0, none⟩) (3 * (n * ea) + 1) ([zs.getD 0 0] ++ triH ea zs (n * ea)) ∧ Wrote Nil w w'
set_option maxHeartbeats 4000000 in
theorem ml_homes {w : World} {b o n cp : Nat} {zs : List Int} (hr : RowAt .i64 w (some ⟨b, o, none⟩) n zs) (n1 : 1 ≤ n) (n64 : n ≤ 64) (ea : Nat) (e1 : 1 ≤ ea) (e8 : ea ≤ 8) : Calls Tryz.prog 7 #[.slice (some ⟨b, o, none⟩) n cp, .int .i64 (ea : Int)] w (HomesNewPost w zs n ea) := by
  obtain ⟨i0, hi, hz0, hz1, hz2⟩ := info_parts info_int
  have hc := hr.cell ⟨b, o, none⟩ rfl 0 (by omega)
  have hc : w.cell? ⟨b, o, none⟩ = some (.int .i64 (zs.getD 0 0)) := hc
  obtain ⟨x, hx⟩ : ∃ x, x = zs.getD 0 0 := ⟨_, rfl⟩
  have HL := Lib.hid (lit_one w 3 (.int .i64 x))
  unfold HomesNewPost
  rw [← hx] at hc ⊢
  have hlen := hr.len
  have HR := Lib.hid hr
  have n0 : (0 : Nat) < n := n1
  have w3e : IntKind.i64.wrap (3 * (ea : Int)) = 3 * (ea : Int) := by rw [IntKind.wrap_i64]; omega
  have m5 : n * ea ≤ 64 * 8 := Nat.mul_le_mul n64 e8
  clear hr hx
  go_enter Tryz.func7, Tryz.ntmps7
  go_wp2
  clear hc
  go_loopw [5, 15] (fun v5 v15 wr => ∃ k : Nat, k ≤ n ∧ v15 = .int .i64 k ∧ Grow 3 1 w w.heap.size wr (3 * (k * ea) + 1) (([x] ++ triH ea zs (k * ea)).map (.int .i64)) v5) (fun _ v15 _ => n - (intOf v15).toNat)
  case atStart => exact ⟨0, Nat.zero_le _, rfl, by simpa [triH] using HL.out⟩
  case round =>
    clear HL
    obtain ⟨k, hk, rfl, hG⟩ := hrel
    by_cases hlt : k < n
    · have hsz := hG.size
      have hmore := triH_next ea zs k
      have yc : wr.cell? ⟨b, o + k, none⟩ = some (.int .i64 (zs.getD k 0)) := by
        rcases (HR.out.after hG.wrote).at with h0 | ⟨b', o', e, hc⟩
        · omega
        · cases e; exact hc _ hlt
      have hkm : (k + 1) * ea ≤ n * ea := Nat.mul_le_mul_right ea hlt
      rw [Nat.succ_mul] at hkm
      generalize zs.getD k 0 = y at *
      obtain ⟨m, hm⟩ : ∃ m, m = k * ea := ⟨_, rfl⟩
      rw [← hm] at hG hmore hkm
      have HM := Lib.hid hm
      have HMO := Lib.hid hmore
      have HG := Lib.hid hG
      clear hG hm hmore
      go_wp2
      clear yc
      go_loopw [5, 8] (fun v5 v8 wy => ∃ j : Nat, j ≤ 3 * ea ∧ v8 = .int .i64 j ∧ Grow 3 1 w w.heap.size wy (3 * m + 1 + j) (([x] ++ triH ea zs m ++ List.replicate j y).map (.int .i64)) v5) (fun _ v8 _ => 3 * ea - (intOf v8).toNat)
      case atStart => exact ⟨0, Nat.zero_le _, rfl, by simpa using HG.out⟩
      case round =>
        clear HG
        obtain ⟨j, hj, rfl, hG⟩ := hrel
        by_cases hlj : j < 3 * ea
        · have hsz := hG.size
          have jl : (j : Int) < 3 * (ea : Int) := by omega
          generalize hV : (([x] ++ triH ea zs m ++ List.replicate j y).map (Value.int .i64)) = V at hG
          have HV := Lib.hid hV
          have HG := Lib.hid hG
          have hown := hG.own
          clear hG hV
          have key : ∀ (w1 : World) (v' : Value), w1.ownsRow w.heap.size 3 1 v' (3 * m + 1 + j + 1) (V ++ [.int .i64 y]) → (wr.alloc (.cells #[.int .i64 y] 3)).grownBy w1 (u5).ownBlock → Grow 3 1 w w.heap.size w1 (3 * m + 1 + (j + 1)) (([x] ++ triH ea zs m ++ List.replicate (j + 1) y).map (.int .i64)) v' := fun w1 v' ho hg => by
            have h2 := (HG.out.after ((Wrote.refl Nil wr).alloc (.cells #[.int .i64 y] 3))).more (m := 1) (news := [.int .i64 y]) ho hg
            rw [List.replicate_succ', ← List.append_assoc, List.map_append, HV.out, show 3 * m + 1 + (j + 1) = 3 * m + 1 + j + 1 by omega]
            exact h2
          have HK := Lib.hid key
          clear key
          go_wp2_with (at_builtin; refine wpList_append_own _ rfl _ _ 22 rfl w.heap.size 3 i0 (.int .i64 0) 1 8 Tryz.underlying22 hi hz0 hz1 hz2 rfl (by decide) _ _ _ rfl (hown.alloc _) ⟨wr.heap.size, 0, none⟩ 1 1 [.int .i64 y] rfl rfl ?c1 ?c2 ?c3 ?c4 ?c5 ?_)
          case c1 =>
            intro j u hj
            match j, hj with
            | 0, hj => simp at hj; subst hj; simp [Addr.add]
          case c2 => intro u hu; simp at hu; subst hu; rfl
          case c3 => unfold maxLen; omega
          case c4 => omega
          case c5 => simp; omega
          · intro v' w1 hown' hgrow _
            have HN := Lib.hid (HK.out _ _ hown' hgrow)
            clear hown' hgrow
            go_wp2
            go_roundw
            case rel => exact ⟨j + 1, by omega, by go_num, HN.out⟩
            case measure => simp [intOf]; omega
        · obtain rfl : j = 3 * ea := by omega
          have jl : ¬ ((3 * ea : Nat) : Int) < 3 * (ea : Int) := by omega
          have HG := Lib.hid hG
          clear hG
          go_wp2
          go_roundw
          case rel =>
            refine ⟨k + 1, by omega, by go_num, ?_⟩
            have h := HG.out
            rw [List.append_assoc, ← HMO.out] at h
            rw [show (k + 1) * ea = m + ea by rw [HM.out, Nat.succ_mul], show 3 * (m + ea) + 1 = 3 * m + 1 + 3 * ea by omega]
            rw [show (k + 1) * ea = m + ea by rw [HM.out, Nat.succ_mul]] at h
            exact h
          case measure => simp [intOf]; omega
    · obtain rfl : k = n := by omega
      obtain ⟨g, cap, rfl, hrow⟩ := own_row hG.own (Nat.succ_pos _)
      have HG := Lib.hid (And.intro hrow hG.wrote)
      clear hG hrow
      go_wp2
      go_ret
      exact ⟨g, cap, rfl, HG.out.1.2.2.2.1, HG.out.2⟩
end Go.Proofs.YtdhpmcafekpfhaaGreat
