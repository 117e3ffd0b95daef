/- build.lay: a lock of each kind is laid. -/
import Derived.Test.YteokghghpmppnaaGreatDoorBuPost
import Derived.Handy
namespace Go.Proofs.YteokghghpmppnaaGreatDoor
open Go.RowKit Go.BigFrame
set_option linter.unusedVariables false
set_option maxRecDepth 100000

/-- a kind's answer as that of any kind -/
theorem lk_ok (v : Value) (w : World) : Calls Tryz.prog 15 #[v, .int .i64 0] w fun e w' => e = .returned (.tuple #[v, .int .i64 0]) ∧ w = w' := by
  go_enter Tryz.func15, Tryz.ntmps15
  go_wp2
  go_ret2
  exact ⟨rfl, rfl⟩
theorem lk_err (v : Value) (x : Int) (hx : x ≠ 0) (w : World) : Calls Tryz.prog 15 #[v, .int .i64 x] w fun e w' => e = .returned (.tuple #[.nilIface, .int .i64 x]) ∧ w = w' := by
  have e : (x != 0) = true := by simp [hx]
  go_enter Tryz.func15, Tryz.ntmps15
  go_wp2
  go_ret2
  exact ⟨rfl, rfl⟩

section
variable {w0 w1 : World} {q : Pl} {b o n cap : Nat} {zs : List Int} {v sz pl B G D : Int}
theorem nw_cl (h0 : Wrote Nil w0 w1) (hq : ∀ k, q.F k → w0.heap.size ≤ k) (hP : PlanAt w1 q n [] []) (hr : RowAt .i64 w0 (some ⟨b, o, none⟩) n zs) (hb : b < w0.heap.size) (ho : homesOK zs = true) (n1 : 1 ≤ n) (n2 : n ≤ 64)  :
    Calls Tryz.prog 18 #[.pointer (some ⟨q.p, 0, none⟩), .slice (some ⟨b, o, none⟩) n cap] w1 (NwPost w0 (fun a => a.kd = 3 ∧ NewA n zs v sz pl B G D a) q 65) := by
  have hn := hr.len
  have hne : q.p < w1.heap.size := hP.lt (.inl rfl)
  refine (Kc.fn_new (cap := cap) hP (hr.after h0) ho n1 n2 (Nat.zero_le _) (fun e => by have := hq b e; omega)).mono ?_
  intro e w2 hq2
  unfold Kc.NewClhPost at hq2
  obtain ⟨L, q2, rfl, hR, hl, h1, h2, hqq, hP2, hW, _⟩ := hq2
  exact ⟨L.lb, rfl, pt_cl h0 hq hne n1 n2 ho hn hR hl h1 h2 hqq hP2 hW⟩
theorem ly_cl (h0 : Wrote Nil w0 w1) (hq : ∀ k, q.F k → w0.heap.size ≤ k) (hP : PlanAt w1 q n [] []) (hr : RowAt .i64 w0 (some ⟨b, o, none⟩) n zs) (hb : b < w0.heap.size) (ho : homesOK zs = true) (n1 : 1 ≤ n) (n2 : n ≤ 64)  :
    Calls Tryz.prog 13 #[.pointer (some ⟨q.p, 0, none⟩), .agg #[.int .i64 3, .slice (some ⟨b, o, none⟩) n cap, .int .u32 v, .int .i64 sz, .int .i64 pl, .int .i64 B, .int .i64 G, .int .i64 D]] w1 (BlPost w0 (fun a => a.kd = 3 ∧ NewA n zs v sz pl B G D a) q) := by
  have cN := fun W (k : Wrote Nil w1 W) => nw_cl (cap := cap) (v := v) (sz := sz) (pl := pl) (B := B) (G := G) (D := D) (h0.nil k) hq (hP.after k) hr hb ho n1 n2
  clear h0 hq hP hr hb ho
  go_enter Tryz.func13, Tryz.ntmps13
  go_wp2_with (first
    | (go_at_call 18; (with_reducible refine (cN _ ((Wrote.refl _ _).alloc _)).mono ?_); intro e w2 hq2; unfold NwPost at hq2; obtain ⟨lb, rfl, hB⟩ := hq2; have HB := Lib.hid hB; clear hB cN)
    | (go_at_call 15; (with_reducible refine (lk_ok _ _).mono ?_); rintro e w3 ⟨rfl, rfl⟩))
  go_ret2
  exact HB.out
end
end Go.Proofs.YteokghghpmppnaaGreatDoor
