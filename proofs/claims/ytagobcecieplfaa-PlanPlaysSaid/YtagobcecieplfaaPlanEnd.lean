/- Two ports of one plan beside the reference's lists: what a store into the one leaves of the other. -/
import Derived.Test.YtagobcecieplfaaPlanTwin
namespace Go.Proofs.Ytagobcecieplfaa
open Go.RowKit
set_option linter.unusedVariables false

/-- one port of the plan (the first), behind the world of the two plans -/
def PortA (w0 w : World) (r : Nat) (x : Place) (n : Nat) (hs vs : List Int) (w' : World) : Prop :=
  PortAt w' x hs (newS n vs) ∧ w.heap.size ≤ x.k0 ∧ x.k3 ≤ w'.heap.size ∧ Wrote Nil w w'
def PortAPost (w0 w : World) (r n : Nat) (hs vs : List Int) (e : Ending) (w' : World) : Prop :=
  ∃ x : Place, e = .returned (.tuple #[.pointer (some ⟨x.p, 0, none⟩), .int .i64 0]) ∧ PortA w0 w r x n hs vs w'
/-- both, and the lists -/
structure GSt (w0 : World) (r : Nat) (x y : Place) (n : Nat) (hs vs : List Int) (hv vv : Value) (w : World) : Prop where
  one : PortAt w x hs (newS n vs)
  two : PortAt w y hs (newS n vs)
  obj : w.heap[r]? = some (.cells #[hv, vv] 29 (0, 0))
  rows : TwoAt w hv vv hs.length hs.length hs vs
  sep : ∀ b, Rng x.k0 x.k3 b → ¬ Rng y.k0 y.k3 b ∧ ¬ PF r hv vv b ∧ w0.heap.size ≤ b
  wrote : Wrote Nil w0 w
def PortBPost (w0 : World) (r : Nat) (x : Place) (n : Nat) (hs vs : List Int) (hv vv : Value) (e : Ending) (w' : World) : Prop :=
  ∃ y : Place, e = .returned (.tuple #[.pointer (some ⟨y.p, 0, none⟩), .int .i64 0]) ∧ GSt w0 r x y n hs vs hv vv w'
/-- the second port and the lists -/
structure HSt (w0 : World) (r : Nat) (y : Place) (n : Nat) (hs vs : List Int) (hv vv : Value) (w : World) : Prop where
  port : PortAt w y hs (newS n vs)
  obj : w.heap[r]? = some (.cells #[hv, vv] 29 (0, 0))
  rows : TwoAt w hv vv hs.length hs.length hs vs
  wrote : Wrote Nil w0 w
theorem HSt.after {w0 w w' : World} {r n : Nat} {y : Place} {hs vs : List Int} {hv vv : Value} (h : HSt w0 r y n hs vs hv vv w) (k : Wrote Nil w w') : HSt w0 r y n hs vs hv vv w' :=
  ⟨h.port.after k, (k.block r (blk_lt h.obj) id).trans h.obj, h.rows.after k, h.wrote.nil k⟩

section
variable {w0 w : World} {p r n : Nat} {hs vs : List Int} {q : Pl} {hv vv : Value}
theorem val_rng (hv' : ∀ z ∈ vs, 0 ≤ z ∧ z < 4294967296) (j : Nat) : 0 ≤ vs.getD j 0 ∧ vs.getD j 0 < 4294967296 := by
  by_cases hj : j < vs.length
  · have e : vs.getD j 0 = vs[j] := by simp [hj]
    rw [e]
    exact hv' _ (List.getElem_mem hj)
  · simp [List.getElem?_eq_none (show vs.length ≤ j by omega)]
theorem gs_one (h : LSt w0 p r n hs vs hs vs q hv vv w) (hv' : ∀ z ∈ vs, 0 ≤ z ∧ z < 4294967296) (n1 : 1 ≤ n) (n2 : n ≤ 64) (hm : hs.length ≤ 4096) (ho : homesOK hs = true) :
    Calls Try.prog 11 #[.pointer (some ⟨p, 0, none⟩)] w (PortAPost w0 w r n hs vs) := by
  have c := plport_good h.plan (val_rng hv') n1 n2 hm ho
  rw [h.hp] at c
  refine c.mono ?_
  rintro e w' ⟨x, rfl, hP, k0, k3, hW⟩
  exact ⟨x, rfl, hP, k0, k3, hW⟩
theorem gs_two {w1 : World} {x : Place} (h : LSt w0 p r n hs vs hs vs q hv vv w) (hA : PortA w0 w r x n hs vs w1) (hv' : ∀ z ∈ vs, 0 ≤ z ∧ z < 4294967296) (n1 : 1 ≤ n) (n2 : n ≤ 64) (hm : hs.length ≤ 4096) (ho : homesOK hs = true) :
    Calls Try.prog 11 #[.pointer (some ⟨p, 0, none⟩)] w1 (PortBPost w0 r x n hs vs hv vv) := by
  obtain ⟨hX, a0, a3, aW⟩ := hA
  have h1 := h.after aW
  have c := plport_good h1.plan (val_rng hv') n1 n2 hm ho
  rw [h.hp] at c
  refine c.mono ?_
  rintro e w' ⟨y, rfl, hP, k0, k3, hW⟩
  have h2 := h1.after hW
  refine ⟨y, rfl, hX.after hW, hP, h2.obj, h2.rows, fun b hb => ⟨fun hb2 => ?_, fun hb2 => ?_, ?_⟩, h2.wrote⟩
  · unfold Rng at hb hb2
    omega
  · have := h.lt2 hb2
    unfold Rng at hb
    omega
  · unfold Rng at hb
    have := h.wrote.size
    omega
end

def StorePost (w0 : World) (r : Nat) (y : Place) (n : Nat) (hs vs : List Int) (hv vv : Value) (e : Ending) (w' : World) : Prop :=
  e = .returned (.tuple #[]) ∧ HSt w0 r y n hs vs hv vv w'
theorem gs_store {w0 w : World} {r n : Nat} {x y : Place} {hs vs : List Int} {hv vv : Value} (h : GSt w0 r x y n hs vs hv vv w) :
    Calls Try.prog 14 #[.pointer (some ⟨x.p, 0, none⟩), .int .i64 0, .int .i64 0, .int .u32 99] w (StorePost w0 r y n hs vs hv vv) := by
  refine (pstore_any h.one 0 0 99 (by decide) (by decide) (by simp [newS])).mono ?_
  rintro e w' ⟨rfl, _, hW⟩
  exact ⟨rfl, h.two.wrote hW fun b b0 b3 x => (h.sep b x).1 ⟨b0, b3⟩, (hW.block r (blk_lt h.obj) fun x => (h.sep r x).2.1 (.inl rfl)).trans h.obj, h.rows.wrote hW fun b hb x => (h.sep b x).2.1 (.inr hb),
    h.wrote.trans hW fun b hb x => absurd (h.sep b x).2.2 (by omega)⟩
def EndPost (w0 : World) (r : Nat) (y : Place) (n : Nat) (hs vs : List Int) (hv vv : Value) (e : Ending) (w' : World) : Prop :=
  ∃ tb, e = .returned (.slice (some ⟨tb, 0, none⟩) hs.length hs.length) ∧ HSt w0 r y n hs vs hv vv w' ∧ w'.rowIs tb 30 hs.length (fun j => .int .u32 (vs.getD j 0))
theorem gs_words {w0 w : World} {r n : Nat} {y : Place} {hs vs : List Int} {hv vv : Value} (h : HSt w0 r y n hs vs hv vv w) (hl : vs.length = hs.length) :
    Calls Try.prog 15 #[.pointer (some ⟨y.m, 0, none⟩)] w (EndPost w0 r y n hs vs hv vv) := by
  refine (words_any h.port.mem).mono ?_
  rintro e w' ⟨g, rfl, hr, _, hW⟩
  have hr : w'.rowIs g 30 vs.length (fun j => .int .u32 (vs.getD j 0)) := hr
  rw [hl] at hr
  exact ⟨g, by rw [show (newS n vs).ws.length = hs.length from hl], h.after hW, hr⟩
theorem gs_threads {w0 w : World} {r n : Nat} {x y : Place} {hs vs : List Int} {hv vv : Value} (h : GSt w0 r x y n hs vs hv vv w) :
    Calls Try.prog 13 #[.pointer (some ⟨x.p, 0, none⟩)] w fun e w' => e = .returned (.int .i64 n) ∧ w' = w := by
  have c := pthreads_any h.one
  rw [show (newS n vs).ac.length = n by simp [newS]] at c
  exact c

theorem ls_fail {w0 w w1 : World} {p r : Nat} {t z : Int} {hs vs : List Int} {q : Pl} {hv vv : Value} (h : LSt w0 p r t hs vs hs vs q hv vv w) (hW : Wrote Nil w w1)
    (hz : ((t < 1 ∨ (¬ t < 1 ∧ 64 < t)) ∧ z = 1) ∨ ((1 ≤ t ∧ t ≤ 64) ∧ 4096 < hs.length ∧ z = 5) ∨ ((1 ≤ t ∧ t ≤ 64) ∧ hs.length ≤ 4096 ∧ homesOK hs = false ∧ z = 1)) :
    Calls Try.prog 11 #[.pointer (some ⟨p, 0, none⟩)] w1 (PortFail w1 z) := by
  have h1 := h.after hW
  rw [← h.hp]
  rcases hz with ⟨a, rfl⟩ | ⟨a, b, rfl⟩ | ⟨a, b, c, rfl⟩
  · exact plport_bad h1.plan a
  · exact plport_big h1.plan a.1 a.2 b
  · exact plport_homes h1.plan a.1 a.2 b c
end Go.Proofs.Ytagobcecieplfaa
