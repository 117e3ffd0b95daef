/- For every input the Go function PlanRows of weighlocklaw05 returns true, and its arguments read afterwards as before. Conditions: none. -/
import Derived.Test.YtagobcecieplfaaRows
import Derived.WalkKit
import Derived.ProofKit
import Derived.OpenShut
import Derived.ChangeOld
import Derived.Below
import Derived.Carry
import Derived.Test.YtagobcecieplfaaPlanLaw
import Derived.Lib.Hide
import Derived.BigRegion
import Derived.Deep.Cut
namespace Go.Proofs.Ytagobcecieplfaa.planRows
open Go.ChangeShapes Go.WideShapes Go.ChangeAt Go.RowKit
set_option linter.unusedVariables false

theorem own : ownKnob Try.prog.godebug = none := by kernel_rfl
theorem laidOut : laidOutB Try.prog = true := by kernel_rfl

/-! the walk -/
/-- two plans, apart from each other, made behind a world -/
structure TwoSt (w0 w : World) (q1 q2 : Pl) (t : Int) (hs1 vs1 hs2 vs2 : List Int) : Prop where
  one : PlanAt w q1 t hs1 vs1
  two : PlanAt w q2 t hs2 vs2
  apart : ∀ b, q1.F b → ¬ q2.F b
  n1 : ∀ b, q1.F b → w0.heap.size ≤ b
  n2 : ∀ b, q2.F b → w0.heap.size ≤ b
  wrote : Wrote Nil w0 w
def Two (w0 : World) (p1 p2 : Nat) (t : Int) (hs1 vs1 hs2 vs2 : List Int) (w : World) : Prop := ∃ q1 q2 : Pl, q1.p = p1 ∧ q2.p = p2 ∧ TwoSt w0 w q1 q2 t hs1 vs1 hs2 vs2

def TwoNewPost (w0 : World) (p1 : Nat) (t : Int) (e : Ending) (w' : World) : Prop := ∃ p2, e = .returned (.pointer (some ⟨p2, 0, none⟩)) ∧ Two w0 p1 p2 t [] [] [] [] w'
theorem two_new {w0 w : World} {p1 : Nat} {t : Int} (h : NewSt w0 p1 t [] [] w) : Calls Try.prog 6 #[.int .i64 t] w (TwoNewPost w0 p1 t) := by
  obtain ⟨q1, hp, hP, hF, hW⟩ := h
  refine (plnew_any t w).mono ?_
  rintro e w' ⟨q2, rfl, hP2, hF2, hW2⟩
  exact ⟨q2.p, rfl, q1, q2, hp, rfl, hP.after hW2, hP2, fun b hb hb2 => by have := hP.lt hb; have := hF2 b hb2; omega, hF, fun b hb => by have := hF2 b hb; have := hW.size; omega, hW.nil hW2⟩

theorem two_row {w0 w : World} {p1 p2 : Nat} {t : Int} {hs1 vs1 hs2 vs2 : List Int} (h : Two w0 p1 p2 t hs1 vs1 hs2 vs2 w) (n home v : Int) (hL : hs1.length ≤ 900000) :
    Calls Try.prog 9 #[.pointer (some ⟨p1, 0, none⟩), .int .i64 n, .int .i64 home, .int .u32 v] w fun e w' => e = .returned (.int .i64 (hs1.length : Nat)) ∧ Two w0 p1 p2 t (hs1 ++ List.replicate (rowN n) home) (vs1 ++ List.replicate (rowN n) v) hs2 vs2 w' := by
  obtain ⟨q1, q2, hp1, hp2, h⟩ := h
  have c := plrow_any h.one n home v hL
  rw [hp1] at c
  refine c.mono ?_
  rintro e w' ⟨rfl, q1', hp', hP, hW, hC⟩
  refine ⟨rfl, q1', q2, hp'.trans hp1, hp2, hP, h.two.wrote hW fun b hb hb1 => h.apart b hb1 hb, fun b hb hb2 => ?_, fun b hb => ?_, h.n2, h.wrote.trans hW fun b hb x => absurd (h.n1 b x) (by omega)⟩
  · rcases hC b hb with x | x
    · exact h.apart b x hb2
    · have := h.two.lt hb2
      omega
  · rcases hC b hb with x | x
    · exact h.n1 b x
    · have := h.wrote.size
      omega

theorem two_word {w0 w : World} {p1 p2 : Nat} {t : Int} {hs1 vs1 hs2 vs2 : List Int} (h : Two w0 p1 p2 t hs1 vs1 hs2 vs2 w) (home v : Int) (hL : hs2.length ≤ 900000) :
    Calls Try.prog 8 #[.pointer (some ⟨p2, 0, none⟩), .int .i64 home, .int .u32 v] w fun e w' => e = .returned (.int .i64 (hs2.length : Nat)) ∧ Two w0 p1 p2 t hs1 vs1 (hs2 ++ [home]) (vs2 ++ [v]) w' := by
  obtain ⟨q1, q2, hp1, hp2, h⟩ := h
  have c := plword_any h.two home v (by omega)
  rw [hp2] at c
  refine c.mono ?_
  rintro e w' ⟨rfl, q2', hp', hP, hW, hC⟩
  refine ⟨rfl, q1, q2', hp1, hp'.trans hp2, h.one.wrote hW fun b hb hb1 => h.apart b hb hb1, hP, fun b hb hb2 => ?_, h.n1, fun b hb => ?_, h.wrote.trans hW fun b hb x => absurd (h.n2 b x) (by omega)⟩
  · rcases hC b hb2 with x | x
    · exact h.apart b hb x
    · have := h.one.lt hb
      omega
  · rcases hC b hb with x | x
    · exact h.n2 b x
    · have := h.wrote.size
      omega

def Port1Post (w0 : World) (p1 p2 n : Nat) (hs vs : List Int) (e : Ending) (w' : World) : Prop :=
  ∃ x : Place, e = .returned (.tuple #[.pointer (some ⟨x.p, 0, none⟩), .int .i64 0]) ∧ PortAt w' x hs (newS n vs) ∧ Two w0 p1 p2 n hs vs hs vs w'
theorem two_port1 {w0 w : World} {p1 p2 n : Nat} {hs vs : List Int} (h : Two w0 p1 p2 n hs vs hs vs w) (wf : ∀ j, 0 ≤ vs.getD j 0 ∧ vs.getD j 0 < 4294967296) (n1 : 1 ≤ n) (n2 : n ≤ 64) (hm : hs.length ≤ 4096) (ho : homesOK hs = true) :
    Calls Try.prog 11 #[.pointer (some ⟨p1, 0, none⟩)] w (Port1Post w0 p1 p2 n hs vs) := by
  obtain ⟨q1, q2, hp1, hp2, h⟩ := h
  have c := plport_good h.one wf n1 n2 hm ho
  rw [hp1] at c
  refine c.mono ?_
  rintro e w' ⟨x, rfl, hP, _, _, hW⟩
  exact ⟨x, rfl, hP, q1, q2, hp1, hp2, h.one.after hW, h.two.after hW, h.apart, h.n1, h.n2, h.wrote.nil hW⟩
/-- two ports -/
structure Ports (w0 : World) (x y : Place) (n : Nat) (hs vs : List Int) (w : World) : Prop where
  one : PortAt w x hs (newS n vs)
  two : PortAt w y hs (newS n vs)
  wrote : Wrote Nil w0 w
def Port2Post (w0 : World) (x : Place) (n : Nat) (hs vs : List Int) (e : Ending) (w' : World) : Prop :=
  ∃ y : Place, e = .returned (.tuple #[.pointer (some ⟨y.p, 0, none⟩), .int .i64 0]) ∧ Ports w0 x y n hs vs w'
theorem two_port2 {w0 w : World} {p1 p2 n : Nat} {x : Place} {hs vs : List Int} (h : Two w0 p1 p2 n hs vs hs vs w) (hx : PortAt w x hs (newS n vs)) (wf : ∀ j, 0 ≤ vs.getD j 0 ∧ vs.getD j 0 < 4294967296) (n1 : 1 ≤ n) (n2 : n ≤ 64) (hm : hs.length ≤ 4096) (ho : homesOK hs = true) :
    Calls Try.prog 11 #[.pointer (some ⟨p2, 0, none⟩)] w (Port2Post w0 x n hs vs) := by
  obtain ⟨q1, q2, hp1, hp2, h⟩ := h
  have c := plport_good h.two wf n1 n2 hm ho
  rw [hp2] at c
  refine c.mono ?_
  rintro e w' ⟨y, rfl, hP, _, _, hW⟩
  exact ⟨y, rfl, hx.after hW, hP, h.wrote.nil hW⟩
theorem Ports.after {w0 w w' : World} {x y : Place} {n : Nat} {hs vs : List Int} (h : Ports w0 x y n hs vs w) (k : Wrote Nil w w') : Ports w0 x y n hs vs w' := ⟨h.one.after k, h.two.after k, h.wrote.nil k⟩

/-- their words, told -/
def Told (w0 : World) (x y : Place) (n : Nat) (hs vs : List Int) (k : Nat) (u v : Value) (w : World) : Prop :=
  ∃ ga gb, u = .slice (some ⟨ga, 0, none⟩) k k ∧ v = .slice (some ⟨gb, 0, none⟩) k k ∧ Ports w0 x y n hs vs w ∧ w.rowIs ga 30 k (fun j => .int .u32 (vs.getD j 0)) ∧ w.rowIs gb 30 k (fun j => .int .u32 (vs.getD j 0))
def WordsX (w0 : World) (x y : Place) (n : Nat) (hs vs : List Int) (k : Nat) (e : Ending) (w' : World) : Prop :=
  ∃ ga, e = .returned (.slice (some ⟨ga, 0, none⟩) k k) ∧ Ports w0 x y n hs vs w' ∧ w'.rowIs ga 30 k (fun j => .int .u32 (vs.getD j 0))
theorem words_x {w0 w : World} {x y : Place} {n k : Nat} {hs vs : List Int} (h : Ports w0 x y n hs vs w) (hk : vs.length = k) :
    Calls Try.prog 15 #[.pointer (some ⟨x.m, 0, none⟩)] w (WordsX w0 x y n hs vs k) := by
  refine (words_any h.one.mem).mono ?_
  rintro e w' ⟨g, rfl, hr, _, hW⟩
  have hr : w'.rowIs g 30 vs.length (fun j => .int .u32 (vs.getD j 0)) := hr
  rw [hk] at hr
  exact ⟨g, by rw [show (newS n vs).ws.length = k from hk], h.after hW, hr⟩
def WordsY (w0 : World) (x y : Place) (n : Nat) (hs vs : List Int) (k ga : Nat) (e : Ending) (w' : World) : Prop :=
  ∃ gb, e = .returned (.slice (some ⟨gb, 0, none⟩) k k) ∧ Told w0 x y n hs vs k (.slice (some ⟨ga, 0, none⟩) k k) (.slice (some ⟨gb, 0, none⟩) k k) w'
theorem words_y {w0 w : World} {x y : Place} {n k ga : Nat} {hs vs : List Int} (h : Ports w0 x y n hs vs w) (hk : vs.length = k) (hr1 : w.rowIs ga 30 k (fun j => .int .u32 (vs.getD j 0))) :
    Calls Try.prog 15 #[.pointer (some ⟨y.m, 0, none⟩)] w (WordsY w0 x y n hs vs k ga) := by
  refine (words_any h.two.mem).mono ?_
  rintro e w' ⟨g, rfl, hr, _, hW⟩
  have hr : w'.rowIs g 30 vs.length (fun j => .int .u32 (vs.getD j 0)) := hr
  rw [hk] at hr
  exact ⟨g, by rw [show (newS n vs).ws.length = k from hk], ga, g, rfl, rfl, h.after hW, hr1.of_block (hW.block _ hr1.lt id), hr⟩

theorem wf_rep {v : Int} (h0 : 0 ≤ v) (h1 : v < 4294967296) (k j : Nat) : 0 ≤ (List.replicate k v).getD j 0 ∧ (List.replicate k v).getD j 0 < 4294967296 := by
  rw [List.getD_eq_getElem?_getD, List.getElem?_replicate]
  split <;> simp <;> omega
theorem ok_rep {h : Int} (h0 : 0 ≤ h) (h1 : h < 8) (k : Nat) : homesOK (List.replicate k h) = true := by
  unfold homesOK
  rw [List.all_eq_true]
  intro z hz
  rw [List.eq_of_mem_replicate hz]
  unfold okH
  simp
  omega
theorem get_rep {v : Int} {k j : Nat} (h : j < k) : (List.replicate k v).getD j 0 = v := by
  rw [List.getD_eq_getElem?_getD, List.getElem?_replicate, if_pos h]
  rfl

set_option maxRecDepth 100000 in
set_option maxHeartbeats 2000000 in
theorem walk (a0 : Int) (a1 : Int) (a2 : Int) (w : World) (w0 : (Lit.int .u8 a0).wf = true) (w1 : (Lit.int .u8 a1).wf = true) (w2 : (Lit.int .u32 a2).wf = true) :
    Calls Try.prog 4 #[.int .u8 a0, .int .u8 a1, .int .u32 a2] w fun e w' => e = .returned (.bool true) ∧ Below w.heap.size w w' := by
  obtain ⟨b0, b1⟩ := u8_bd w0
  obtain ⟨b2, b3⟩ := u8_bd w1
  obtain ⟨b4, b5⟩ := u32_bd w2
  clear w0 w1 w2
  obtain ⟨k, hk⟩ : ∃ k : Nat, a0 % 100 = (k : Int) := ⟨(a0 % 100).toNat, by omega⟩
  obtain ⟨h, hh⟩ : ∃ h : Int, a1 % 8 = h := ⟨_, rfl⟩
  have hk1 : k < 100 := by omega
  have hh0 : 0 ≤ h := by omega
  have hh1 : h < 8 := by omega
  have hrow : rowN (k : Int) = k := by unfold rowN; omega
  have cRow : ∀ (p1 p2 : Nat) (wa : World), Two w p1 p2 2 [] [] [] [] wa → Calls Try.prog 9 #[.pointer (some ⟨p1, 0, none⟩), .int .i64 k, .int .i64 h, .int .u32 a2] wa fun e w' => e = .returned (.int .i64 0) ∧ Two w p1 p2 2 (List.replicate k h) (List.replicate k a2) [] [] w' := by
    intro p1 p2 wa hT
    have c := two_row hT k h a2 (by decide)
    rw [hrow, List.nil_append, List.nil_append] at c
    exact c
  have HB := Lib.hid (And.intro b4 (And.intro b5 (And.intro hh0 hh1)))
  go_enter Try.func4, Try.ntmps4
  go_upto_region 2 with fail
  rw [hk, hh]
  clear hk hh hrow b0 b1 b2 b3 hh0 hh1
  go_wp2_with (first
    | (go_at_call 6; with_reducible refine (two_new hP).mono ?_; intro e w2 h2; unfold TwoNewPost at h2; obtain ⟨p2, rfl, hT⟩ := h2; clear hP)
    | (go_at_call 6; with_reducible refine (new_st 2 _).mono ?_; intro e w1 h1; unfold NewPlanPost at h1; obtain ⟨p1, rfl, hP⟩ := h1)
    | (go_at_call 9; with_reducible refine (cRow p1 p2 w2 hT).mono ?_; rintro e w3 ⟨rfl, hT3⟩; clear hT cRow))
  go_loopw [42] (fun i wr => ∃ j : Nat, j ≤ k ∧ i = .int .i64 j ∧ Two w p1 p2 2 (List.replicate k h) (List.replicate k a2) (List.replicate j h) (List.replicate j a2) wr) (fun i _ => k - (intOf i).toNat)
  case atStart => exact ⟨0, Nat.zero_le _, rfl, hT3⟩
  case round =>
    clear hT3
    obtain ⟨j, hj, rfl, hT⟩ := hrel
    by_cases hlt : j < k
    · have c : Calls Try.prog 8 #[.pointer (some ⟨p2, 0, none⟩), .int .i64 h, .int .u32 a2] wr fun e w' => e = .returned (.int .i64 j) ∧ Two w p1 p2 2 (List.replicate k h) (List.replicate k a2) (List.replicate (j + 1) h) (List.replicate (j + 1) a2) w' := by
        have c := two_word hT h a2 (by simp; omega)
        rw [List.length_replicate, ← List.replicate_succ', ← List.replicate_succ'] at c
        exact c
      clear hT
      go_wp2_with (go_at_call 8; with_reducible refine c.mono ?_; rintro e w4 ⟨rfl, hT4⟩)
      go_roundw
      case rel => exact ⟨j + 1, by omega, by go_num, hT4⟩
      case measure => simp [intOf]; omega
    · obtain rfl : j = k := by omega
      have wf := wf_rep HB.out.1 HB.out.2.1 j
      have ho := ok_rep HB.out.2.2.1 HB.out.2.2.2 j
      have hl : (List.replicate j h).length ≤ 4096 := by simp; omega
      go_upto_region 15 with (first
        | (go_at_call 11; with_reducible refine (two_port2 hT6 hX wf (by decide) (by decide) hl ho).mono ?_; intro e w7 h7; unfold Port2Post at h7; obtain ⟨y, rfl, hPs⟩ := h7; clear hT6 hX)
        | (go_at_call 11; with_reducible refine (two_port1 (n := 2) hT wf (by decide) (by decide) hl ho).mono ?_; intro e w6 h6; unfold Port1Post at h6; obtain ⟨x, rfl, hX, hT6⟩ := h6; clear hT))
      have hlv : (List.replicate j a2).length = j := by simp
      go_cut [16, 17] from 76 (fun v16 v17 wx => Told w x y 2 (List.replicate j h) (List.replicate j a2) j v16 v17 wx)
      case first =>
        have d0 := hPs.one.cell0
        have d1 := hPs.two.cell0
        go_region_with (first
          | (go_at_call 15; with_reducible refine (words_y hP8 hlv hr8).mono ?_; intro e w9 h9; unfold WordsY at h9; obtain ⟨gb, rfl, hT9⟩ := h9)
          | (go_at_call 15; with_reducible refine (words_x (hPs.after (Wrote.refl _ _).drew) hlv).mono ?_; intro e w8 h8; unfold WordsX at h8; obtain ⟨ga, rfl, hP8, hr8⟩ := h8; have d2 := hP8.two.cell0))
        all_goals
          go_wp2_with fail
          go_meet
          case rel => exact hT9
      case rest =>
        clear hPs
        obtain ⟨ga, gb, rfl, rfl, hPs, hra, hrb⟩ := hcut
        have hm1 := hPs.one.mem
        have hm2 := hPs.two.mem
        have cx := hPs.one.cell0
        have cy := hPs.two.cell0
        have hW := hPs.wrote
        have ra : ∀ i, i < j → wc.cell? ⟨ga, i, none⟩ = some (.int .u32 a2) := fun i hi => by rw [hra.cell hi, get_rep hi]
        have rb : ∀ i, i < j → wc.cell? ⟨gb, i, none⟩ = some (.int .u32 a2) := fun i hi => by rw [hrb.cell hi, get_rep hi]
        have ha : ∀ i : Nat, i < j → Calls Try.prog 16 #[.pointer (some ⟨x.m, 0, none⟩), .int .i64 i] wc fun e w' => e = .returned (.int .i64 h) ∧ wc = w' := fun i hi => by
          have c := home_any hm1 (i : Int)
          rw [load_at, get_rep hi] at c
          exact c
        have hb : ∀ i : Nat, i < j → Calls Try.prog 16 #[.pointer (some ⟨y.m, 0, none⟩), .int .i64 i] wc fun e w' => e = .returned (.int .i64 h) ∧ wc = w' := fun i hi => by
          have c := home_any hm2 (i : Int)
          rw [load_at, get_rep hi] at c
          exact c
        have HW := Lib.hid hW
        clear hPs hra hrb hm1 hm2 hW wf ho hl hlv
        go_wp2_with fail
        go_loop [98] (fun i => ∃ m : Nat, m ≤ j ∧ i = .int .i64 m) (fun i => j - (intOf i).toNat)
        case atStart => exact ⟨0, Nat.zero_le _, rfl⟩
        case round =>
          obtain ⟨m, hm, rfl⟩ := hrel
          by_cases hlt2 : m < j
          · have c1 := ra m hlt2
            have c2 := rb m hlt2
            have c3 := ha m hlt2
            have c4 := hb m hlt2
            clear ra rb ha hb
            go_wp2_with (first
              | (go_at_call 16; with_reducible refine c3.mono ?_; rintro e w' ⟨rfl, rfl⟩)
              | (go_at_call 16; with_reducible refine c4.mono ?_; rintro e w' ⟨rfl, rfl⟩))
            go_round
            case rel => exact ⟨m + 1, by omega, by go_num⟩
            case measure => simp [intOf]; omega
          · clear ra rb ha hb
            go_wp2_with (go_at_call 5; refine (awake_any _).mono ?_; rintro e w6 ⟨rfl, hW6⟩)
            go_ret
            exact ⟨rfl, (HW.out.nil hW6).law⟩

/-! the row -/
set_option maxRecDepth 100000 in
theorem lifted (os : Os) (started : os.Started) (H : Type) (enc : TypeId × Value → H) :
    ReturnsInHanded {} Try.checked os 4 .any (Rows.planRowsSpec.pre6 enc Try.prog Try.f4 Rows.planRowsRow.domain false) (Rows.planRowsSpec.post enc Try.prog Try.f4 false true false false) := by
  refine returnsInHanded_of_change (C := Try.checked) own started (by kernel_rfl) Try.func4
    (ChangeSpec.witness6 (enc := enc) (C := Try.checked) false ⟨#[], #[.int .u8 0, .int .u8 0, .int .u32 0], []⟩ 8 (by kernel_rfl) (by kernel_rfl) (by kernel_rfl) (by kernel_rfl)) ?_
  intro W base args ds gs before hval0 hW hcnd _
  have hval : ∀ (j : Nat) t v, Try.f4.params[j]? = some t → args[j]? = some v → Value.okWide Try.prog W .any base t v := hval0
  have hW' := hW
  obtain ⟨p, q, hA0, hV, rfl, hfz, hnd⟩ := hW
  have hA : DataW.TrodAll enc Try.prog W 0 (fun _ => true) true Try.f4.params.toList args.toList ds p := hA0
  rw [Try.params4] at hA hval
  obtain ⟨v0, vs0, d0, ds0, p0, q0, hargs, rfl, rfl, h0, r0'⟩ := trodAll_cons hA
  obtain ⟨v1, vs1, d1, ds1, p1, q1, rfl, rfl, rfl, h1, r1'⟩ := trodAll_cons r0'
  obtain ⟨v2, vs2, d2, ds2, p2, q2, rfl, rfl, rfl, h2, r2'⟩ := trodAll_cons r1'
  obtain ⟨rfl, rfl, rfl⟩ := trodAll_nil r2'
  obtain rfl : args = #[v0, v1, v2] := by cases args; simp_all
  obtain ⟨rfl, rfl⟩ := trodVars_none hV
  obtain ⟨a0, rfl, rfl, rfl, w0⟩ := open_int Try.underlying5 (hval 0 5 v0 rfl rfl) h0
  obtain ⟨a1, rfl, rfl, rfl, w1⟩ := open_int Try.underlying5 (hval 1 5 v1 rfl rfl) h1
  obtain ⟨a2, rfl, rfl, rfl, w2⟩ := open_int Try.underlying30 (hval 2 30 v2 rfl rfl) h2
  clear hA0 hval0
  simp only [List.append_nil] at hW'
  refine (walk a0 a1 a2 W w0 w1 w2).mono fun e W' ⟨he, bel⟩ => ?_
  subst he
  exact ⟨_, rfl, _, _, _, [], [], [], hW', trodAll_mk1 (shut_bool Try.underlying4 _), (trodAll_cons_mk (shut_int Try.underlying5 w0) (trodAll_cons_mk (shut_int Try.underlying5 w1) (trodAll_cons_mk (shut_int Try.underlying30 w2) trodAll_mk0))), rfl, bel.frame _, fun h => by cases h⟩

theorem over : Rows.planRowsRow.holds Try.pinned (OpenSpec.ofChange Rows.planRowsSpec) :=
  OpenClaim.holds_of_wide 4 Try.f4 rfl rfl rfl rfl rfl rfl rfl ⟨rfl, rfl, rfl, rfl, rfl⟩ rfl rfl rfl rfl rfl (by kernel_rfl) Try.func4 (by kernel_rfl)
    (of_decide_eq_true (by kernel_rfl)) (by unfold Func.isWrapper; first | (rw [if_pos (by decide +kernel)]; kernel_rfl) | (rw [if_neg (by decide +kernel)]; exact ⟨rfl, rfl⟩))
    (fun os started H enc _ => lifted os started H enc)

/-- the statement -/
theorem proved : Rows.PlanRowsSaid := over
#print axioms proved
end Go.Proofs.Ytagobcecieplfaa.planRows
