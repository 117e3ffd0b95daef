/- A part of a port's words as a port's words of its own: what an access tells of it, and does to it; no walk. -/
import Derived.Test.YtkmikkjjnbikdaaGreatSeatNew
import Derived.Test.YtkmikkjjnbikdaaGreatPlanPort
import Derived.Test.YtkmikkjjnbikdaaGreatCoVia
namespace Go.Proofs.YtkmikkjjnbikdaaGreat
open Go.RowKit
/-- what a step did -/
structure Dd where
  ev : Int
  enq : Bool
  arr : Bool
  lead : Bool
def Dd.no : Dd := ⟨0, false, false, false⟩
def Dd.val (d : Dd) : Value := .agg #[.int .i64 d.ev, .bool d.enq, .bool d.arr, .bool d.lead]
def b2i (b : Bool) : Int := if b then 1 else 0
def Dd.rval (d : Dd) : Value := .agg #[.int .i64 d.ev, .int .i64 (b2i d.enq), .int .i64 (b2i d.arr), .int .i64 (b2i d.lead)]
end Go.Proofs.YtkmikkjjnbikdaaGreat
namespace Go.Proofs.YtkmikkjjnbikdaaGreat
open Go.RowKit
set_option linter.unusedVariables false

def sub (l : List Int) (o n : Nat) : List Int := (l.drop o).take n
theorem sub_len {l : List Int} {o n : Nat} (h : o + n ≤ l.length) : (sub l o n).length = n := by unfold sub; rw [List.length_take, List.length_drop]; omega
theorem sub_at {l : List Int} {o n i : Nat} (hi : i < n) : (sub l o n).getD i 0 = l.getD (o + i) 0 := by
  unfold sub
  rw [List.getD_eq_getElem?_getD, List.getD_eq_getElem?_getD, List.getElem?_take_of_lt hi, List.getElem?_drop]
theorem sub_set {l : List Int} {o n i : Nat} (v : Int) : sub (l.set (o + i) v) o n = (sub l o n).set i v := by
  unfold sub
  rw [List.drop_set, if_neg (by omega), List.take_set, show o + i - o = i by omega]
/-- what lies apart stays -/
theorem sub_set_off {l : List Int} {o n i : Nat} (v : Int) (h : i < o ∨ o + n ≤ i) : sub (l.set i v) o n = sub l o n := by
  unfold sub
  rw [List.drop_set]
  rcases h with h | h
  · rw [if_pos h]
  · rw [if_neg (by omega), List.take_set, List.set_eq_of_length_le (by rw [List.length_take]; omega)]
/-- the same words, of m threads that have done nothing -/
def PSta.vw (ps : PSta) (o n m : Nat) : PSta := ⟨sub ps.ws o n, [], List.replicate m 0, [], []⟩
def PSta.nrm (ps : PSta) (m : Nat) : PSta := ⟨ps.ws, [], List.replicate m 0, [], []⟩
theorem load_sub {l : List Int} {o n i : Nat} (hi : i < n) : loadI l ((o : Int) + i) = loadI (sub l o n) i := by
  rw [show (o : Int) + i = ((o + i : Nat) : Int) by omega, load_at, load_at, sub_at hi]
theorem store_sub {l : List Int} {o n i : Nat} (v : Int) : sub (storeL l ((o : Int) + i) v) o n = storeL (sub l o n) i v := by
  unfold storeL
  rw [if_pos (by omega), if_pos (by omega), show ((o : Int) + i).toNat = o + i by omega, Int.toNat_natCast, sub_set]
theorem has_sub {l : List Int} {o n i : Nat} (hi : i < n) (h : o + n ≤ l.length) : hasB l.length ((o : Int) + i) = true ∧ hasB (sub l o n).length i = true := by
  rw [sub_len h]
  exact ⟨decide_eq_true (by omega), decide_eq_true (by omega)⟩
theorem cas_sub {l : List Int} {o n i : Nat} (hi : i < n) (h : o + n ≤ l.length) (old : Int) : casB l ((o : Int) + i) old = casB (sub l o n) i old := by
  unfold casB
  rw [(has_sub hi h).1, (has_sub hi h).2, load_sub hi]
section
variable {ps : PSta} {o n m u v i : Nat}
theorem ok_vw (hu : u < ps.ac.length) (hv : v < m) (hi : i < n) (h : o + n ≤ ps.ws.length) : okT ps u ((o : Int) + i) = true ∧ okT (ps.vw o n m) v i = true := by
  refine ⟨decide_eq_true (by omega), decide_eq_true ?_⟩
  have h1 : (ps.vw o n m).ws.length = n := sub_len h
  have h2 : (ps.vw o n m).ac.length = m := by simp [PSta.vw]
  omega
theorem tell_vw (hu : u < ps.ac.length) (hv : v < m) (hi : i < n) (h : o + n ≤ ps.ws.length) (K : Int) : tellS ps u K ((o : Int) + i) = tellS (ps.vw o n m) v K i := by
  unfold tellS okS
  rw [(ok_vw hu hv hi h).1, (ok_vw hu hv hi h).2]
  unfold tellI
  rw [load_sub hi]
  rfl
theorem do_vw (hu : u < ps.ac.length) (hv : v < m) (hi : i < n) (h : o + n ≤ ps.ws.length) (K old x : Int) : (doS ps u K ((o : Int) + i) old x).vw o n m = (doS (ps.vw o n m) v K i old x).nrm m := by
  unfold doS okS
  rw [(ok_vw hu hv hi h).1, (ok_vw hu hv hi h).2]
  by_cases hK : 1 ≤ K ∧ K ≤ 5
  · rw [decide_eq_true hK, Bool.and_self, if_pos rfl, if_pos rfl]
    unfold PSta.nrm
    unfold PSta.vw
    dsimp only
    congr 1
    unfold doL
    by_cases k2 : K = 2 ∨ K = 3
    · rw [if_pos k2, if_pos k2]; exact store_sub x
    · rw [if_neg k2, if_neg k2]
      by_cases k4 : K = 4
      · rw [if_pos k4, if_pos k4]
        unfold casL
        rw [cas_sub hi h]
        split
        · exact store_sub x
        · rfl
      · rw [if_neg k4, if_neg k4]
        by_cases k5 : K = 5
        · rw [if_pos k5, if_pos k5]
          unfold addL
          rw [load_sub (n := n) hi]
          exact store_sub _
        · rw [if_neg k5, if_neg k5]
  · rw [decide_eq_false hK, Bool.and_false, if_neg (by decide), if_neg (by decide)]
    rfl
theorem cast_vw (hu : u < ps.ac.length) (hv : v < m) (hi : i < n) (h : o + n ≤ ps.ws.length) (old : Int) : (okT ps u ((o : Int) + i) && casB ps.ws ((o : Int) + i) old) = (okT (ps.vw o n m) v i && casB (ps.vw o n m).ws i old) := by
  rw [(ok_vw hu hv hi h).1, (ok_vw hu hv hi h).2, cas_sub hi h]
  rfl
/-- what an access leaves as it was: all words that lie apart, how many there are -/
theorem do_off (K old x : Int) {o' n' : Nat} (ha : o + i < o' ∨ o' + n' ≤ o + i) : sub (doS ps u K ((o : Int) + i) old x).ws o' n' = sub ps.ws o' n' := by
  have key : ∀ y, sub (storeL ps.ws ((o : Int) + i) y) o' n' = sub ps.ws o' n' := fun y => by
    unfold storeL
    rw [if_pos (by omega), show ((o : Int) + i).toNat = o + i by omega]
    exact sub_set_off y ha
  unfold doS
  split
  · dsimp only
    unfold doL casL addL
    repeat' split
    all_goals first | exact key _ | rfl
  · rfl
theorem do_len (a K old x : Int) : (doS ps u K a old x).ws.length = ps.ws.length ∧ (doS ps u K a old x).ac.length = ps.ac.length := by
  unfold doS
  split
  · dsimp only [touchS]
    exact ⟨doL_len _ _ _ _ _, bump_len _ _ _⟩
  · exact ⟨rfl, rfl⟩
theorem do_len' (ps : PSta) (t a K old x : Int) : (doS ps t K a old x).ws.length = ps.ws.length ∧ (doS ps t K a old x).ac.length = ps.ac.length := by
  unfold doS
  split
  · dsimp only [touchS]
    exact ⟨doL_len _ _ _ _ _, bump_len _ _ _⟩
  · exact ⟨rfl, rfl⟩
end
end Go.Proofs.YtkmikkjjnbikdaaGreat
