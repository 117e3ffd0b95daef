/- build.lay where nothing may be laid; of any configuration. -/
import Derived.Test.YteokghghpmppnaaGreatDoorBuLay
namespace Go.Proofs.YteokghghpmppnaaGreatDoor
open Go.RowKit Go.BigFrame
set_option linter.unusedVariables false
set_option maxRecDepth 100000

/-- behind lay, where nothing may be laid -/
def BnPost (w : World) (x : Int) (e : Ending) (w' : World) : Prop := e = .returned (.tuple #[.nilIface, .int .i64 x]) ∧ Wrote Nil w w'
section
variable {w : World} {p n cap : Nat} {sa : Option Addr} {zs : List Int} {v sz pl B G D : Int}
theorem lx_cl (hr : RowAt .i64 w sa n zs) (hL : n ≤ 1000000) (hn : homesOK zs = false ∨ n < 1 ∨ 64 < n) :
    Calls Tryz.prog 13 #[.pointer (some ⟨p, 0, none⟩), .agg #[.int .i64 3, .slice sa n cap, .int .u32 v, .int .i64 sz, .int .i64 pl, .int .i64 B, .int .i64 G, .int .i64 D]] w (BnPost w 1) := by
  have cN := fun W (k : Wrote Nil w W) => Kc.fn_none (p := p) (cap := cap) (hr.after k) hL hn
  clear hr
  go_enter Tryz.func13, Tryz.ntmps13
  go_wp2_with (first
    | (go_at_call 18; (with_reducible refine (cN _ ((Wrote.refl _ _).alloc _)).mono ?_); rintro e w2 ⟨rfl, rfl⟩)
    | (go_at_call 15; (with_reducible refine (lk_err _ 1 (by decide) _).mono ?_); rintro e w3 ⟨rfl, rfl⟩))
  go_ret2
  exact ⟨rfl, (Wrote.refl _ _).alloc _⟩
theorem lx_no {kd : Int} (hk : kd < 1 ∨ 7 < kd) (s : Value) :
    Calls Tryz.prog 13 #[.pointer (some ⟨p, 0, none⟩), .agg #[.int .i64 kd, s, .int .u32 v, .int .i64 sz, .int .i64 pl, .int .i64 B, .int .i64 G, .int .i64 D]] w (BnPost w 7) := by
  have k1 : ¬ kd = 1 := by omega
  have k2 : ¬ kd = 2 := by omega
  have k3 : ¬ kd = 3 := by omega
  have k4 : ¬ kd = 4 := by omega
  have k5 : ¬ kd = 5 := by omega
  have k6 : ¬ kd = 6 := by omega
  have k7 : ¬ kd = 7 := by omega
  clear hk
  go_enter Tryz.func13, Tryz.ntmps13
  go_wp2
  go_ret2
  exact ⟨rfl, (Wrote.refl _ _).alloc _⟩
end
end Go.Proofs.YteokghghpmppnaaGreatDoor
